/-
  The walk of the law's destroys (41).
-/
import Derived.Test.YthdhegmlknpllaaGreatSif
namespace Go.Proofs.YthdhegmlknpllaaGreat
open Go.RowKit Go.Maps Go.MuLone

section
variable {B : Nat} {w w1 w2 W : World} {db b rb : Nat} {s s' : Sto} {r r' : RSto} {q : Nat}
theorem SN.up (hf : Fr [] w w1) (h : SN B w1 w2 db b rb s r q) : SN B w w2 db b rb s r q := by
  obtain ⟨s', r', sd, m, f, g⟩ := h
  exact ⟨s', r', sd, m, (hf.mono (by simp)).trans f (fun k hk => Or.inl hk), fun k hk => (g k hk).imp_right (fun h => Nat.le_trans hf.size h)⟩
theorem SN.down (h : SN B w w1 db b rb s r q) (hf : Fr [] w1 w2) : SN B w w2 db b rb s r q := by
  obtain ⟨s', r', sd, m, f, g⟩ := h
  exact ⟨s', r', sd.same hf, m, f.trans hf (by simp), g⟩
theorem SN.keep (h : SN B w w1 db b rb s r q) (sd : SD B w db b rb s r) {k : Nat} {cur : Array Value} {t : TypeId} (e : w.heap[k]? = some (.cells cur t (0, 0))) (ht : t ≠ 76 ∧ t ≠ 112 ∧ t ≠ 119 ∧ t ≠ 125 ∧ t ≠ 5 ∧ t ≠ 86 ∧ t ≠ 117 ∧ t ≠ 129) : w1.heap[k]? = some (.cells cur t (0, 0)) := by
  obtain ⟨s', r', _, _, f, _⟩ := h
  rw [f.block k (Array.getElem?_eq_some_iff.1 e).1 (sd.no e ht)]
  exact e
end
/-- Numbers as cells. -/
def iC (zs : List Int) : List Value := zs.map (Value.int .i64)
theorem iC_len (zs : List Int) : (iC zs).length = zs.length := by simp [iC]
theorem rowG_iC {w : World} {g : Nat} {zs : List Int} {tl : List Value} {t : TypeId} {cap : Nat} (h : w.heap[g]? = some (.cells (iC zs ++ tl).toArray t (0, 0))) (hc : zs.length ≤ cap) : RowG w (some ⟨g, 0, none⟩) zs cap := by
  refine ⟨hc, fun h0 => ⟨g, 0, rfl, fun i hi => ?_⟩⟩
  rw [Nat.zero_add, cell_of h, List.getElem?_toArray, List.getElem?_append_left (by rw [iC_len]; exact hi)]
  simp [iC, tm, hi]

theorem fr_cells' {F : List Nat} {w : World} {vb : Nat} (hv : vb ∈ F ∨ w.heap.size ≤ vb) : ∀ (l : List Value) (o : Nat) (w1 : World), Fr F w w1 → Fr F w (w1.setCells vb o l)
  | [], _, _, h => h
  | _ :: r, o, _, h => fr_cells' hv r (o + 1) _ (h.setCell _ hv)
/-- The list that is handed in: the numbers, and two more behind them. -/
theorem dst_given {w1 : World} {gb n : Nat} {Z X : List Value} (hZ : Z.length = n + 2) (hX : X.length = n) (h0 : w1.heap[gb]? = some (.cells Z.toArray 3 (0, 0))) : (∃ v, (w1.setCells gb 0 X).cell? ⟨gb, n, none⟩ = some v) ∧ (w1.setCells gb 0 X).frozen? ⟨gb, n, none⟩ = false ∧ (∃ v, ((w1.setCells gb 0 X).setCell ⟨gb, n, none⟩ (.int .i64 77)).cell? ⟨gb, n + 1, none⟩ = some v) ∧ ((w1.setCells gb 0 X).setCell ⟨gb, n, none⟩ (.int .i64 77)).frozen? ⟨gb, n + 1, none⟩ = false ∧ (((w1.setCells gb 0 X).setCell ⟨gb, n, none⟩ (.int .i64 77)).setCell ⟨gb, n + 1, none⟩ (.int .i64 77)).heap[gb]? = some (.cells (X ++ [Value.int .i64 77, Value.int .i64 77]).toArray 3 (0, 0)) := by
  obtain ⟨cur, h, hs, hc⟩ := setCells_heap X 0 w1 Z.toArray h0
  have hs2 : cur.size = n + 2 := by rw [hs]; simpa using hZ
  have h1 := heap_setCell_same (w1.setCells gb 0 X) gb n _ _ (.int .i64 77) h
  have h2 := heap_setCell_same _ gb (n + 1) _ _ (.int .i64 77) h1
  refine ⟨⟨cur[n], ?_⟩, froz_of h _, ⟨cur[n + 1], ?_⟩, froz_of h1 _, ?_⟩
  · rw [cell_of h, Array.getElem?_eq_getElem (by omega)]
  · rw [cell_of h1, Array.getElem?_setIfInBounds_ne (by omega), Array.getElem?_eq_getElem (by omega)]
  · rw [h2]
    congr 2
    apply Array.ext_getElem?
    intro k
    rw [List.getElem?_toArray (xs := X ++ [Value.int .i64 77, Value.int .i64 77])]
    by_cases e1 : k = n + 1
    · subst e1
      rw [Array.getElem?_setIfInBounds_self_of_lt (by simp; omega), List.getElem?_append_right (by omega), hX]
      simp
    · rw [Array.getElem?_setIfInBounds_ne (by omega)]
      by_cases e2 : k = n
      · subst e2
        rw [Array.getElem?_setIfInBounds_self_of_lt (by omega), List.getElem?_append_right (by omega), hX]
        simp
      · rw [Array.getElem?_setIfInBounds_ne (by omega)]
        by_cases e3 : k < n
        · rw [hc k (by simp [hZ]; omega), if_pos ⟨by omega, by omega⟩, List.getElem?_append_left (by omega)]
          rfl
        · rw [Array.getElem?_eq_none (by omega), List.getElem?_eq_none (by simp; omega)]

set_option maxRecDepth 100000 in
set_option maxHeartbeats 3200000 in
theorem destroys_any (B db b rb : Nat) (s : Sto) (r : RSto) (q : Nat) (ao : Option Addr) (zs : List Int) (cap : Nat) (w : World) (h : SD B w db b rb s r) (m : Sim s r q) (hr : RowG w ao zs cap) (hnil : ao = none → cap = 0) (hlow : ∀ k off, ao = some ⟨k, off, none⟩ → 0 < zs.length → k < B) (hb : ∀ i, i < zs.length → In64 (tm zs i)) (hz : zs.length ≤ 1500000) (hq : q ≤ 2000000) :
    Calls Tryz.prog 41 #[.pointer (some ⟨db, 0, none⟩), .slice ao zs.length cap] w fun e w' => e = .returned (.bool true) ∧ SN B w w' db b rb s r q := by
  obtain ⟨i0, hi, hz0, hz1, hz2⟩ := info_parts info3
  have hsz1 : (Tryz.prog.info? 3).map (·.size) = some 1 := by rw [hi]; simp [hz1]
  obtain ⟨n, hn⟩ : ∃ n, zs.length = n := ⟨_, rfl⟩
  have HS : Hid (SD B w db b rb s r ∧ Sim s r q ∧ RowG w ao zs cap ∧ (∀ k off, ao = some ⟨k, off, none⟩ → 0 < zs.length → k < B) ∧ (∀ i, i < zs.length → In64 (tm zs i)) ∧ zs.length = n) := ⟨h, m, hr, hlow, hb, hn⟩
  have c0 : w.cell? ⟨db, 0, none⟩ = some (.pointer (some ⟨b, 0, none⟩)) := by rw [cell_of h.blk]; rfl
  have hcap : n ≤ cap := by rw [← hn]; exact hr.1
  have q1 : IntKind.i64.wrap ((n : Int) + 2) = ((n + 2 : Nat) : Int) := by rw [show ((n + 2 : Nat) : Int) = (n : Int) + 2 by omega]; exact wrap_fit ⟨by omega, by omega⟩
  have q2 : IntKind.i64.wrap ((n : Int) + 1) = (n : Int) + 1 := wrap_fit ⟨by omega, by omega⟩
  rw [hn] at hz ⊢
  obtain ⟨X, hX⟩ : ∃ X, iC zs = X := ⟨_, rfl⟩
  have HX : Hid (iC zs = X ∧ X.length = n ∧ (∀ v ∈ X, v.oneCell' = true)) := ⟨hX, by rw [← hX, iC_len, hn], by rw [← hX]; intro v hv; obtain ⟨z, _, rfl⟩ := List.mem_map.1 hv; rfl⟩
  clear h m hr hlow hb hn hX
  cases ao with
  | none =>
    have hn0 : n = 0 := by
      rw [← HS.out.2.2.2.2.2]
      rcases Nat.eq_zero_or_pos zs.length with e | e
      · exact e
      · obtain ⟨_, _, e2, _⟩ := HS.out.2.2.1.2 e
        cases e2
    have hz0' : zs = [] := List.length_eq_zero_iff.1 (by rw [HS.out.2.2.2.2.2]; exact hn0)
    have hc0 := hnil rfl
    subst hn0
    subst hc0
    subst hz0'
    have he : ∀ W : World, (binOp .eql 39 (.slice none 0 0) (.slice none 0 0)).run Tryz.prog W = .ok (.bool true) W := fun _ => rfl
    clear hnil HX q1 q2 X hcap hz
    go_enter Tryz.func41, Tryz.ntmps41
    go_wp2_with (first
      | (at_make; refine wpList_make_full _ rfl _ _ 39 rfl w.heap.size 3 i0 _ 1 Tryz.underlying39 hi hz0 hz1 _ _ _ _ 2 rfl rfl (by first | rfl | omega) (by first | rfl | omega) (by rw [hz2]; omega) (by unfold maxLen; omega) (by simp) ?_; intro w1 hown1 hgrow1; have F1 : Hid (Fr [] w w1) := (Fr.refl _ _).grown hgrow1 (fun k hk => by simp at hk); obtain ⟨Z, hZ1, hZ2⟩ : ∃ Z : List Value, Z.length = 2 ∧ w1.heap[w.heap.size]? = some (.cells Z.toArray 3 (0, 0)) := ⟨_, (by simpa using hown1.1), own_full hown1⟩; have HZ : Hid (Z.length = 2 ∧ w1.heap[w.heap.size]? = some (.cells Z.toArray 3 (0, 0))) := ⟨hZ1, hZ2⟩; clear hown1 hgrow1 hZ1 hZ2; have hcp0 : ∀ ty, (Builtin.copy_ #[39, 39] ty #[.slice (some ⟨w.heap.size, 0, none⟩) 2 2, .slice none 0 0]).run Tryz.prog w1 = .ok (goInt 0) w1 := (fun ty => run_copy_none (P := Tryz.prog) w1 39 39 ty 3 _ _ 2 2 0 0 Tryz.underlying39 hsz1 rfl); obtain ⟨⟨v1, g1⟩, g2, ⟨v2, g3⟩, g4, g5⟩ := dst_given (n := 0) (X := []) HZ.out.1 rfl HZ.out.2; have g0 : ((w1.setCell ⟨w.heap.size, 0, none⟩ (.int .i64 77)).setCell ⟨w.heap.size, 1, none⟩ (.int .i64 77)).cell? ⟨db, 0, none⟩ = some (.pointer (some ⟨b, 0, none⟩)) := ((F1.out.setCell _ (Or.inr (Nat.le_refl _))).setCell _ (Or.inr (Nat.le_refl _))).gb.cell c0 (by simp); have g1' : w1.cell? ⟨w.heap.size, 0, none⟩ = some v1 := g1; have g2' : w1.frozen? ⟨w.heap.size, 0, none⟩ = false := g2; have g3' : (w1.setCell ⟨w.heap.size, 0, none⟩ (.int .i64 77)).cell? ⟨w.heap.size, 1, none⟩ = some v2 := g3; have g4' : (w1.setCell ⟨w.heap.size, 0, none⟩ (.int .i64 77)).frozen? ⟨w.heap.size, 1, none⟩ = false := g4; have H2 : Hid (((w1.setCell ⟨w.heap.size, 0, none⟩ (.int .i64 77)).setCell ⟨w.heap.size, 1, none⟩ (.int .i64 77)).heap[w.heap.size]? = some (.cells #[Value.int .i64 77, Value.int .i64 77] 3 (0, 0))) := g5; clear g1 g2 g3 g4 g5))
    obtain ⟨gb, hgb⟩ : ∃ gb, w.heap.size = gb := ⟨_, rfl⟩
    obtain ⟨W3, hW3⟩ : ∃ W3, (w1.setCell ⟨w.heap.size, 0, none⟩ (.int .i64 77)).setCell ⟨w.heap.size, 1, none⟩ (.int .i64 77) = W3 := ⟨_, rfl⟩
    have HG3 : Hid (Fr [] w W3 ∧ W3.heap[gb]? = some (.cells #[Value.int .i64 77, Value.int .i64 77] 3 (0, 0))) := by
      have h8 := H2.out
      rw [hW3, hgb] at h8
      refine ⟨?_, h8⟩
      rw [← hW3]
      exact (F1.out.setCell _ (Or.inr (Nat.le_refl _))).setCell _ (Or.inr (Nat.le_refl _))
    rw [hW3, hgb]
    rw [hW3] at g0
    clear hW3 hcp0 g1' g2' g3' g4' H2 HZ F1 hgb
    have HSD : Hid (SD B W3 db b rb s r) := HS.out.1.same HG3.out.1
    have RN : ∀ (W : World) (a : Option Addr) (p : Nat), RowG W a [] p := fun W a p => ⟨Nat.zero_le _, fun h => by simp at h⟩
    have HRN : Hid (∀ (W : World) (a : Option Addr) (p : Nat), RowG W a [] p) := RN
    have HP : Hid (Calls Tryz.prog 67 #[.pointer (some ⟨b, 0, none⟩), .slice none 0 0] W3 (PC fC B W3 db b rb s r q 68 #[.pointer (some ⟨rb, 0, none⟩), .slice none 0 0])) := p_destroy HSD.out HS.out.2.1 none none 0 0 [] (RN _ _ _) (RN _ _ _) (fun k off e => by cases e) (fun k off e => by cases e) (fun i hi => by simp at hi) (by simp) hq
    have HR5 : Hid (∀ w5, SN B W3 w5 db b rb s r q → w5.heap[gb]? = some (.cells #[Value.int .i64 77, Value.int .i64 77] 3 (0, 0))) := fun w5 h5 => h5.keep HSD.out HG3.out.2 (by decide)
    have HCl : Hid (∀ W : World, W.heap[gb]? = some (.cells #[Value.int .i64 77, Value.int .i64 77] 3 (0, 0)) → W.cell? ⟨gb, 0, none⟩ = some (.int .i64 77) ∧ W.cell? ⟨gb, 1, none⟩ = some (.int .i64 77)) := fun W hW => by
      refine ⟨?_, ?_⟩ <;> rw [cell_of hW] <;> rfl
    clear RN
    go_wp2_with (first
      | (go_at_call 67; refine HP.out.mono ?_; rintro e w4 ⟨c, rfl, b4, hr4⟩; have H4 : Hid (∀ W, Fr [] w4 W → Calls Tryz.prog 68 #[.pointer (some ⟨rb, 0, none⟩), .slice none 0 0] W fun e2 w2 => e2 = .returned (.int .i64 c) ∧ SN B W3 w2 db b rb s r q) := hr4; have c41 : w4.cell? ⟨db, 1, none⟩ = some (.pointer (some ⟨rb, 0, none⟩)) := (by rw [cell_of b4.1]; rfl); rw [show fC c = Value.int .i64 c from rfl]; clear b4 hr4)
      | (go_at_call 68; refine (H4.out _ (by first | exact Fr.refl _ _ | exact (Fr.refl _ _).drew | exact (Fr.refl _ _).drewN _)).mono ?_; rintro e w5 ⟨rfl, sn5⟩; have H5 : Hid (SN B W3 w5 db b rb s r q) := sn5; clear sn5)
      | (go_at_call 47; refine (sameInts_any (some ⟨gb, 0, none⟩) none [] 2 0 w5 (HRN.out _ _ _) (HRN.out _ _ _) (by simp)).mono ?_; rintro e w6 ⟨rfl, q6, hq6⟩; have H6 : Hid (SN B W3 w6 db b rb s r q) := (by rw [hq6]; exact H5.out.down ((Fr.refl _ _).drewN _)); obtain ⟨x1, x2⟩ := HCl.out w6 (HR5.out w6 H6.out); clear hq6))
    go_ret
    exact ⟨rfl, H6.out.up HG3.out.1⟩
  | some ad =>
    have HSrc : Hid (∀ W, Fr [] w W → ∀ j v, X[j]? = some v → W.cell? (ad.add j) = some v) := fun W hW j v hv => by
      have hRW := HS.out.2.2.1.fr hW (by simp)
      have hj : j < zs.length := by have := (List.getElem?_eq_some_iff.1 hv).1; rw [HX.out.2.1] at this; rw [HS.out.2.2.2.2.2]; exact this
      obtain ⟨rb', off, e, hc⟩ := hRW.2 (by omega)
      simp only [Option.some.injEq] at e
      rw [e, Addr.add_lit, hc j hj]
      rw [← HX.out.1] at hv
      simp only [iC, List.getElem?_map, List.getElem?_eq_getElem hj, Option.map_some, Option.some.injEq] at hv
      rw [tm_get zs j hj]
      exact congrArg some hv
    have he : ∀ W : World, (binOp .eql 39 (.slice (some ad) n cap) (.slice none 0 0)).run Tryz.prog W = .ok (.bool false) W := fun _ => rfl
    have n1 : (n : Int) < ((n + 2 : Nat) : Int) := by omega
    have n2 : (n : Int) + 1 < ((n + 2 : Nat) : Int) := by omega
    have n3 : ((n : Int) + 1).toNat = n + 1 := by omega
    have n4 : (0 : Int) ≤ (n : Int) + 1 := by omega
    go_enter Tryz.func41, Tryz.ntmps41
    go_wp2_with (first
      | (at_make; refine wpList_make_full _ rfl _ _ 39 rfl w.heap.size 3 i0 _ 1 Tryz.underlying39 hi hz0 hz1 _ _ _ _ (n + 2) rfl rfl (by first | rfl | omega | exact q1) (by first | rfl | omega | exact q1) (by rw [hz2]; omega) (by unfold maxLen; omega) (by simp) ?_; intro w1 hown1 hgrow1; have F1 : Hid (Fr [] w w1) := (Fr.refl _ _).grown hgrow1 (fun k hk => by simp at hk); obtain ⟨Z, hZ1, hZ2⟩ : ∃ Z : List Value, Z.length = n + 2 ∧ w1.heap[w.heap.size]? = some (.cells Z.toArray 3 (0, 0)) := ⟨_, (by simpa using hown1.1), own_full hown1⟩; have HZ : Hid (Z.length = n + 2 ∧ w1.heap[w.heap.size]? = some (.cells Z.toArray 3 (0, 0))) := ⟨hZ1, hZ2⟩; clear hown1 hgrow1 hZ1 hZ2; have hcp0 : ∀ ty, (Builtin.copy_ #[39, 39] ty #[.slice (some ⟨w.heap.size, 0, none⟩) (n + 2) (n + 2), .slice (some ad) n cap]).run Tryz.prog w1 = .ok (goInt n) (w1.setCells w.heap.size 0 X) := (fun ty => by have h8 := run_copy_cells (P := Tryz.prog) w1 39 39 ty 3 w.heap.size 0 (n + 2) (n + 2) ad n cap X Tryz.underlying39 hsz1 (by rw [HX.out.2.1]; simp) (HSrc.out w1 F1.out) (fun j hj => by rw [Nat.zero_add, cell_of HZ.out.2, List.getElem?_toArray, List.getElem?_eq_getElem (by rw [HZ.out.1]; rw [HX.out.2.1] at hj; omega)]; rfl) (fun j hj => froz_of HZ.out.2 _) HX.out.2.2; rw [HX.out.2.1] at h8; exact h8); obtain ⟨⟨v1, g1⟩, g2, ⟨v2, g3⟩, g4, g5⟩ := dst_given HZ.out.1 HX.out.2.1 HZ.out.2; have g0 : (((w1.setCells w.heap.size 0 X).setCell ⟨w.heap.size, n, none⟩ (.int .i64 77)).setCell ⟨w.heap.size, n + 1, none⟩ (.int .i64 77)).cell? ⟨db, 0, none⟩ = some (.pointer (some ⟨b, 0, none⟩)) := (((fr_cells' (F := []) (w := w) (vb := w.heap.size) (Or.inr (Nat.le_refl _)) X 0 w1 F1.out).setCell _ (Or.inr (Nat.le_refl _))).setCell _ (Or.inr (Nat.le_refl _))).gb.cell c0 (by simp); obtain ⟨w2, hw2⟩ : ∃ w2, w1.setCells w.heap.size 0 X = w2 := ⟨_, rfl⟩; have H2 : Hid (w1.setCells w.heap.size 0 X = w2 ∧ (((w1.setCells w.heap.size 0 X).setCell ⟨w.heap.size, n, none⟩ (.int .i64 77)).setCell ⟨w.heap.size, n + 1, none⟩ (.int .i64 77)).heap[w.heap.size]? = some (.cells (X ++ [Value.int .i64 77, Value.int .i64 77]).toArray 3 (0, 0))) := ⟨hw2, g5⟩; rw [hw2] at hcp0 g0 g1 g2 g3 g4; clear g5 hw2))
    obtain ⟨gb, hgb⟩ : ∃ gb, w.heap.size = gb := ⟨_, rfl⟩
    obtain ⟨W3, hW3⟩ : ∃ W3, (w2.setCell ⟨w.heap.size, n, none⟩ (.int .i64 77)).setCell ⟨w.heap.size, n + 1, none⟩ (.int .i64 77) = W3 := ⟨_, rfl⟩
    have HG3 : Hid (Fr [] w W3 ∧ W3.heap[gb]? = some (.cells (X ++ [Value.int .i64 77, Value.int .i64 77]).toArray 3 (0, 0))) := by
      have h8 := H2.out.2
      rw [H2.out.1, hW3, hgb] at h8
      refine ⟨?_, h8⟩
      rw [← hW3, ← H2.out.1]
      exact ((fr_cells' (F := []) (w := w) (vb := w.heap.size) (Or.inr (Nat.le_refl _)) X 0 w1 F1.out).setCell _ (Or.inr (Nat.le_refl _))).setCell _ (Or.inr (Nat.le_refl _))
    rw [hW3, hgb]
    rw [hW3] at g0
    clear hW3 hcp0 g1 g2 g3 g4 H2 HZ F1 hgb
    have HSD : Hid (SD B W3 db b rb s r ∧ RowG W3 (some ⟨gb, 0, none⟩) zs (n + 2) ∧ RowG W3 (some ad) zs cap) := ⟨HS.out.1.same HG3.out.1, rowG_iC (tl := [Value.int .i64 77, Value.int .i64 77]) (by rw [HX.out.1]; exact HG3.out.2) (by rw [HS.out.2.2.2.2.2]; omega), HS.out.2.2.1.fr HG3.out.1 (by simp)⟩
    have HP : Hid (Calls Tryz.prog 67 #[.pointer (some ⟨b, 0, none⟩), .slice (some ⟨gb, 0, none⟩) n (n + 2)] W3 (PC fC B W3 db b rb s r q 68 #[.pointer (some ⟨rb, 0, none⟩), .slice (some ad) n cap])) := by
      have h8 := p_destroy HSD.out.1 HS.out.2.1 (some ⟨gb, 0, none⟩) (some ad) (n + 2) cap zs HSD.out.2.1 HSD.out.2.2 (fun k off e _ => by simp only [Option.some.injEq, Addr.mk.injEq] at e; rw [← e.1]; exact HSD.out.1.no HG3.out.2 (by decide)) (fun k off e h0 hm => by have h9 := HS.out.2.2.2.1 k off e h0; have h10 := (HSD.out.1.lt k hm).1; omega) HS.out.2.2.2.2.1 (by rw [HS.out.2.2.2.2.2]; omega) hq
      rw [HS.out.2.2.2.2.2] at h8
      exact h8
    have HR5 : Hid (∀ w5, SN B W3 w5 db b rb s r q → w5.heap[gb]? = some (.cells (X ++ [Value.int .i64 77, Value.int .i64 77]).toArray 3 (0, 0)) ∧ RowG w5 (some ad) zs cap) := fun w5 h5 => by
      refine ⟨h5.keep HSD.out.1 HG3.out.2 (by decide), ?_⟩
      obtain ⟨_, _, _, _, f, _⟩ := h5
      exact HSD.out.2.2.fr f (fun k off e h0 hm => by have h9 := HS.out.2.2.2.1 k off e h0; have h10 := (HSD.out.1.lt k hm).1; omega)
    have HCl : Hid (∀ W : World, W.heap[gb]? = some (.cells (X ++ [Value.int .i64 77, Value.int .i64 77]).toArray 3 (0, 0)) → W.cell? ⟨gb, n, none⟩ = some (.int .i64 77) ∧ W.cell? ⟨gb, n + 1, none⟩ = some (.int .i64 77)) := fun W hW => by
      have hl := HX.out.2.1
      refine ⟨?_, ?_⟩ <;> rw [cell_of hW, List.getElem?_toArray, List.getElem?_append_right (by omega), hl] <;> simp
    have HSame : Hid (∀ W : World, W.heap[gb]? = some (.cells (X ++ [Value.int .i64 77, Value.int .i64 77]).toArray 3 (0, 0)) → RowG W (some ad) zs cap → Calls Tryz.prog 47 #[.slice (some ⟨gb, 0, none⟩) n (n + 2), .slice (some ad) n cap] W fun e w' => e = .returned (.bool true) ∧ ∃ q, w' = W.drewN q) := fun W h1 h2 => by
      have h8 := sameInts_any (some ⟨gb, 0, none⟩) (some ad) zs (n + 2) cap W (rowG_iC (tl := [Value.int .i64 77, Value.int .i64 77]) (by rw [HX.out.1]; exact h1) (by rw [HS.out.2.2.2.2.2]; omega)) h2 (by rw [HS.out.2.2.2.2.2]; omega)
      rw [HS.out.2.2.2.2.2] at h8
      exact h8
    go_wp2_with (first
      | (go_at_call 67; refine HP.out.mono ?_; rintro e w4 ⟨c, rfl, b4, hr4⟩; have H4 : Hid (∀ W, Fr [] w4 W → Calls Tryz.prog 68 #[.pointer (some ⟨rb, 0, none⟩), .slice (some ad) n cap] W fun e2 w2 => e2 = .returned (.int .i64 c) ∧ SN B W3 w2 db b rb s r q) := hr4; have c41 : w4.cell? ⟨db, 1, none⟩ = some (.pointer (some ⟨rb, 0, none⟩)) := (by rw [cell_of b4.1]; rfl); rw [show fC c = Value.int .i64 c from rfl]; clear b4 hr4)
      | (go_at_call 68; refine (H4.out _ (by first | exact Fr.refl _ _ | exact (Fr.refl _ _).drew | exact (Fr.refl _ _).drewN _)).mono ?_; rintro e w5 ⟨rfl, sn5⟩; have H5 : Hid (SN B W3 w5 db b rb s r q) := sn5; clear sn5)
      | (go_at_call 47; refine (HSame.out _ (HR5.out w5 H5.out).1 (HR5.out w5 H5.out).2).mono ?_; rintro e w6 ⟨rfl, q6, hq6⟩; have H6 : Hid (SN B W3 w6 db b rb s r q) := (by rw [hq6]; exact H5.out.down ((Fr.refl _ _).drewN _)); obtain ⟨x1, x2⟩ := HCl.out w6 (HR5.out w6 H6.out).1; clear hq6))
    go_ret
    exact ⟨rfl, H6.out.up HG3.out.1⟩
end Go.Proofs.YthdhegmlknpllaaGreat
