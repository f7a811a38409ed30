import Derived.Test.YthdhegmlknpllaaGreatM41
import Derived.Test.YthdhegmlknpllaaGreatM43
namespace Go.Proofs.YthdhegmlknpllaaGreat
open Go.RowKit Go.Maps Go.MuLone
section
variable {O : Obj} {B : Nat} {w w1 w2 W : World} {db b rb : Nat} {s s' : Sto} {r r' : RSto} {q : Nat}
theorem SN.up (hf : Fr [] w w1) (h : SN O B w1 w2 db b rb s r q) : SN O B w w2 db b rb s r q := by
 obtain ⟨s', r', sd, m, f, g, ls⟩ := h
 exact ⟨s', r', sd, m, (hf.mono (by simp)).trans f (fun k hk => Or.inl hk), fun k hk => (g k hk).imp_right (fun h => Nat.le_trans hf.size h), ls⟩
theorem SN.down (h : SN O B w w1 db b rb s r q) (hf : Fr [] w1 w2) : SN O B w w2 db b rb s r q := by
 obtain ⟨s', r', sd, m, f, g⟩ := h
 exact ⟨s', r', sd.same hf, m, f.trans hf (by simp), g⟩
theorem SN.keep (h : SN O B w w1 db b rb s r q) (sd : SD O B w db b rb s r) {k : Nat} {cur : Array Value} {t : TypeId} (e : w.heap[k]? = some (.cells cur t (0, 0))) (ht : t ≠ 76 ∧ t ≠ 112 ∧ t ≠ 119 ∧ t ≠ 125 ∧ t ≠ 5 ∧ t ≠ 86 ∧ t ≠ 117 ∧ t ≠ 129) : w1.heap[k]? = some (.cells cur t (0, 0)) := by
 obtain ⟨s', r', _, _, f, _, _⟩ := h
 rw [f.block k (Array.getElem?_eq_some_iff.1 e).1 (sd.no e ht)]
 exact e
end
def iC (zs : List Int) : List Value := zs.map (Value.int .i64)
theorem iC_len (zs : List Int) : (iC zs).length = zs.length := by simp [iC]
theorem rowG_iC {w : World} {g : Nat} {zs : List Int} {tl : List Value} {t : TypeId} {cap : Nat} (h : w.heap[g]? = some (.cells (iC zs ++ tl).toArray t (0, 0))) (hc : zs.length ≤ cap) : RowG w (some ⟨g, 0, none⟩) zs cap := by
 refine ⟨hc, fun h0 => ⟨g, 0, rfl, fun i hi => ?_⟩⟩
 rw [Nat.zero_add, cell_of h, List.getElem?_toArray, List.getElem?_append_left (by rw [iC_len]; exact hi)]
 simp [iC, tm, hi]
theorem fr_cells' {F : List Nat} {w : World} {vb : Nat} (hv : vb ∈ F ∨ w.heap.size ≤ vb) : ∀ (l : List Value) (o : Nat) (w1 : World), Fr F w w1 → Fr F w (w1.setCells vb o l)
 | [], _, _, h => h
 | _ :: r, o, _, h => fr_cells' hv r (o + 1) _ (h.setCell _ hv)
theorem dst_given {w1 : World} {gb n : Nat} {Z X : List Value} (hZ : Z.length = n + 2) (hX : X.length = n) (h0 : w1.heap[gb]? = some (.cells Z.toArray 3 (0, 0))) : (∃ v, (w1.setCells gb 0 X).cell? ⟨gb, n, none⟩ = some v) ∧ (w1.setCells gb 0 X).frozen? ⟨gb, n, none⟩ = false ∧ (∃ v, ((w1.setCells gb 0 X).setCell ⟨gb, n, none⟩ (.int .i64 77)).cell? ⟨gb, n + 1, none⟩ = some v) ∧ ((w1.setCells gb 0 X).setCell ⟨gb, n, none⟩ (.int .i64 77)).frozen? ⟨gb, n + 1, none⟩ = false ∧ (((w1.setCells gb 0 X).setCell ⟨gb, n, none⟩ (.int .i64 77)).setCell ⟨gb, n + 1, none⟩ (.int .i64 77)).heap[gb]? = some (.cells (X ++ [Value.int .i64 77, Value.int .i64 77]).toArray 3 (0, 0)) := by
 obtain ⟨cur, h, hs, hc⟩ := setCells_heap X 0 w1 Z.toArray h0
 have hs2 : cur.size = n + 2 := by rw [hs]; simpa using hZ
 have h1 := heap_setCell_same (w1.setCells gb 0 X) gb n _ _ (.int .i64 77) h
 have h2 := heap_setCell_same _ gb (n + 1) _ _ (.int .i64 77) h1
 refine ⟨⟨cur[n], ?_⟩, froz_of h _, ⟨cur[n + 1], ?_⟩, froz_of h1 _, ?_⟩
 · rw [cell_of h, Array.getElem?_eq_getElem (by omega)]
 · rw [cell_of h1, Array.getElem?_setIfInBounds_ne (by omega), Array.getElem?_eq_getElem (by omega)]
 · rw [h2]
   congr 2
   apply Array.ext_getElem?
   intro k
   rw [List.getElem?_toArray (xs := X ++ [Value.int .i64 77, Value.int .i64 77])]
   by_cases e1 : k = n + 1
   · subst e1
     rw [Array.getElem?_setIfInBounds_self_of_lt (by simp; omega), List.getElem?_append_right (by omega), hX]
     simp
   · rw [Array.getElem?_setIfInBounds_ne (by omega)]
     by_cases e2 : k = n
     · subst e2
       rw [Array.getElem?_setIfInBounds_self_of_lt (by omega), List.getElem?_append_right (by omega), hX]
       simp
     · rw [Array.getElem?_setIfInBounds_ne (by omega)]
       by_cases e3 : k < n
       · rw [hc k (by simp [hZ]; omega), if_pos ⟨by omega, by omega⟩, List.getElem?_append_left (by omega)]
         rfl
       · rw [Array.getElem?_eq_none (by omega), List.getElem?_eq_none (by simp; omega)]
set_option maxRecDepth 100000 in
set_option maxHeartbeats 3200000 in
theorem destroys_any (lnv : Value) (B db b rb : Nat) (s : Sto) (r : RSto) (q : Nat) (ao : Option Addr) (zs : List Int) (cap : Nat) (w : World) (h : SD (sdO b rb lnv) B w db b rb s r) (m : Sim s r q) (hr : RowG w ao zs cap) (hnil : ao = none → cap = 0) (hlow : ∀ k off, ao = some ⟨k, off, none⟩ → 0 < zs.length → k < B) (hb : ∀ i, i < zs.length → In64 (tm zs i)) (hz : zs.length ≤ 1500000) (hq : q ≤ 2000000) :
  Calls Tryz.prog 41 #[.pointer (some ⟨db, 0, none⟩), .slice ao zs.length cap] w fun e w' => e = .returned (.bool true) ∧ SN (sdO b rb lnv) B w w' db b rb s r q := by
 obtain ⟨i0, hi, hz0, hz1, hz2⟩ := info_parts info3
 have hsz1 : (Tryz.prog.info? 3).map (·.size) = some 1 := by rw [hi]; simp [hz1]
 obtain ⟨n, hn⟩ : ∃ n, zs.length = n := ⟨_, rfl⟩
 have HS : Hid (SD (sdO b rb lnv) B w db b rb s r ∧ Sim s r q ∧ RowG w ao zs cap ∧ (∀ k off, ao = some ⟨k, off, none⟩ → 0 < zs.length → k < B) ∧ (∀ i, i < zs.length → In64 (tm zs i)) ∧ zs.length = n) := ⟨h, m, hr, hlow, hb, hn⟩
 have c0 : w.cell? ⟨db, 0, none⟩ = some (.pointer (some ⟨b, 0, none⟩)) := by rw [cell_of h.blk]; rfl
 have hcap : n ≤ cap := by rw [← hn]; exact hr.1
 have q1 : IntKind.i64.wrap ((n : Int) + 2) = ((n + 2 : Nat) : Int) := by rw [show ((n + 2 : Nat) : Int) = (n : Int) + 2 by omega]; exact wrap_fit ⟨by omega, by omega⟩
 have q2 : IntKind.i64.wrap ((n : Int) + 1) = (n : Int) + 1 := wrap_fit ⟨by omega, by omega⟩
 rw [hn] at hz ⊢
 obtain ⟨X, hX⟩ : ∃ X, iC zs = X := ⟨_, rfl⟩
 have HX : Hid (iC zs = X ∧ X.length = n ∧ (∀ v ∈ X, v.oneCell' = true)) := ⟨hX, by rw [← hX, iC_len, hn], by rw [← hX]; intro v hv; obtain ⟨z, _, rfl⟩ := List.mem_map.1 hv; rfl⟩
 clear h m hr hlow hb hn hX
 cases ao with
 | none =>
  have hn0 : n = 0 := by
   rw [← HS.out.2.2.2.2.2]
   rcases Nat.eq_zero_or_pos zs.length with e | e
   · exact e
   · obtain ⟨_, _, e2, _⟩ := HS.out.2.2.1.2 e
     cases e2
  have hz0' : zs = [] := List.length_eq_zero_iff.1 (by rw [HS.out.2.2.2.2.2]; exact hn0)
  have hc0 := hnil rfl
  subst hn0
  subst hc0
  subst hz0'
  have he : ∀ W : World, (binOp .eql 39 (.slice none 0 0) (.slice none 0 0)).run Tryz.prog W = .ok (.bool true) W := fun _ => rfl
  clear hnil HX q1 q2 X hcap hz
  go_enter Tryz.func41, Tryz.ntmps41
  go_wp2_with (first
   | (at_make; refine wpList_make_full _ rfl _ _ 39 rfl w.heap.size 3 i0 _ 1 Tryz.underlying39 hi hz0 hz1 _ _ _ _ 2 rfl rfl (by first | rfl | omega) (by first | rfl | omega) (by rw [hz2]; omega) (by unfold maxLen; omega) (by simp) ?_; intro w1 hown1 hgrow1; have F1 : Hid (Fr [] w w1) := (Fr.refl _ _).grown hgrow1 (fun k hk => by simp at hk); obtain ⟨Z, hZ1, hZ2⟩ : ∃ Z : List Value, Z.length = 2 ∧ w1.heap[w.heap.size]? = some (.cells Z.toArray 3 (0, 0)) := ⟨_, (by simpa using hown1.1), own_full hown1⟩; have HZ : Hid (Z.length = 2 ∧ w1.heap[w.heap.size]? = some (.cells Z.toArray 3 (0, 0))) := ⟨hZ1, hZ2⟩; clear hown1 hgrow1 hZ1 hZ2; have hcp0 : ∀ ty, (Builtin.copy_ #[39, 39] ty #[.slice (some ⟨w.heap.size, 0, none⟩) 2 2, .slice none 0 0]).run Tryz.prog w1 = .ok (goInt 0) w1 := (fun ty => run_copy_none (P := Tryz.prog) w1 39 39 ty 3 _ _ 2 2 0 0 Tryz.underlying39 hsz1 rfl); obtain ⟨⟨v1, g1⟩, g2, ⟨v2, g3⟩, g4, g5⟩ := dst_given (n := 0) (X := []) HZ.out.1 rfl HZ.out.2; have g0 : ((w1.setCell ⟨w.heap.size, 0, none⟩ (.int .i64 77)).setCell ⟨w.heap.size, 1, none⟩ (.int .i64 77)).cell? ⟨db, 0, none⟩ = some (.pointer (some ⟨b, 0, none⟩)) := ((F1.out.setCell _ (Or.inr (Nat.le_refl _))).setCell _ (Or.inr (Nat.le_refl _))).gb.cell c0 (by simp); have g1' : w1.cell? ⟨w.heap.size, 0, none⟩ = some v1 := g1; have g2' : w1.frozen? ⟨w.heap.size, 0, none⟩ = false := g2; have g3' : (w1.setCell ⟨w.heap.size, 0, none⟩ (.int .i64 77)).cell? ⟨w.heap.size, 1, none⟩ = some v2 := g3; have g4' : (w1.setCell ⟨w.heap.size, 0, none⟩ (.int .i64 77)).frozen? ⟨w.heap.size, 1, none⟩ = false := g4; have H2 : Hid (((w1.setCell ⟨w.heap.size, 0, none⟩ (.int .i64 77)).setCell ⟨w.heap.size, 1, none⟩ (.int .i64 77)).heap[w.heap.size]? = some (.cells #[Value.int .i64 77, Value.int .i64 77] 3 (0, 0))) := g5; clear g1 g2 g3 g4 g5))
  obtain ⟨gb, hgb⟩ : ∃ gb, w.heap.size = gb := ⟨_, rfl⟩
  obtain ⟨W3, hW3⟩ : ∃ W3, (w1.setCell ⟨w.heap.size, 0, none⟩ (.int .i64 77)).setCell ⟨w.heap.size, 1, none⟩ (.int .i64 77) = W3 := ⟨_, rfl⟩
  have HG3 : Hid (Fr [] w W3 ∧ W3.heap[gb]? = some (.cells #[Value.int .i64 77, Value.int .i64 77] 3 (0, 0))) := by
   have h8 := H2.out
   rw [hW3, hgb] at h8
   refine ⟨?_, h8⟩
   rw [← hW3]
   exact (F1.out.setCell _ (Or.inr (Nat.le_refl _))).setCell _ (Or.inr (Nat.le_refl _))
  rw [hW3, hgb]
  rw [hW3] at g0
  clear hW3 hcp0 g1' g2' g3' g4' H2 HZ F1 hgb
  have HSD : Hid (SD (sdO b rb lnv) B W3 db b rb s r) := HS.out.1.same HG3.out.1
  have RN : ∀ (W : World) (a : Option Addr) (p : Nat), RowG W a [] p := fun W a p => ⟨Nat.zero_le _, fun h => by simp at h⟩
  have HRN : Hid (∀ (W : World) (a : Option Addr) (p : Nat), RowG W a [] p) := RN
  have HP : Hid (Calls Tryz.prog 67 #[.pointer (some ⟨b, 0, none⟩), .slice none 0 0] W3 (PC fC (sdO b rb lnv) B W3 db b rb s r q 68 #[.pointer (some ⟨rb, 0, none⟩), .slice none 0 0])) := p_destroy HSD.out HS.out.2.1 none none 0 0 [] (RN _ _ _) (RN _ _ _) (fun k off e => by cases e) (fun k off e => by cases e) (fun i hi => by simp at hi) (by simp) hq
  have HR5 : Hid (∀ w5, SN (sdO b rb lnv) B W3 w5 db b rb s r q → w5.heap[gb]? = some (.cells #[Value.int .i64 77, Value.int .i64 77] 3 (0, 0))) := fun w5 h5 => h5.keep HSD.out HG3.out.2 (by decide)
  have HCl : Hid (∀ W : World, W.heap[gb]? = some (.cells #[Value.int .i64 77, Value.int .i64 77] 3 (0, 0)) → W.cell? ⟨gb, 0, none⟩ = some (.int .i64 77) ∧ W.cell? ⟨gb, 1, none⟩ = some (.int .i64 77)) := fun W hW => by
   refine ⟨?_, ?_⟩ <;> rw [cell_of hW] <;> rfl
  clear RN
  go_wp2_with (first
   | (go_at_call 67; refine HP.out.mono ?_; rintro e w4 ⟨c, rfl, b4, hr4⟩; have H4 : Hid (∀ W, Fr [] w4 W → Calls Tryz.prog 68 #[.pointer (some ⟨rb, 0, none⟩), .slice none 0 0] W fun e2 w2 => e2 = .returned (.int .i64 c) ∧ SN (sdO b rb lnv) B W3 w2 db b rb s r q) := hr4; have c41 : w4.cell? ⟨db, 1, none⟩ = some (.pointer (some ⟨rb, 0, none⟩)) := (by rw [cell_of b4.1]; rfl); rw [show fC c = Value.int .i64 c from rfl]; clear b4 hr4)
   | (go_at_call 68; refine (H4.out _ Fr.dd).mono ?_; rintro e w5 ⟨rfl, sn5⟩; have H5 : Hid (SN (sdO b rb lnv) B W3 w5 db b rb s r q) := sn5; clear sn5)
   | (go_at_call 47; refine (sameInts_any (some ⟨gb, 0, none⟩) none [] 2 0 w5 (HRN.out _ _ _) (HRN.out _ _ _) (by simp)).mono ?_; rintro e w6 ⟨rfl, q6, hq6⟩; have H6 : Hid (SN (sdO b rb lnv) B W3 w6 db b rb s r q) := (by rw [hq6]; exact H5.out.down ((Fr.refl _ _).drewN _)); obtain ⟨x1, x2⟩ := HCl.out w6 (HR5.out w6 H6.out); clear hq6))
  go_ret
  exact ⟨rfl, H6.out.up HG3.out.1⟩
 | some ad =>
  have HSrc : Hid (∀ W, Fr [] w W → ∀ j v, X[j]? = some v → W.cell? (ad.add j) = some v) := fun W hW j v hv => by
   have hRW := HS.out.2.2.1.fr hW (by simp)
   have hj : j < zs.length := by have := (List.getElem?_eq_some_iff.1 hv).1; rw [HX.out.2.1] at this; rw [HS.out.2.2.2.2.2]; exact this
   obtain ⟨rb', off, e, hc⟩ := hRW.2 (by omega)
   simp only [Option.some.injEq] at e
   rw [e, Addr.add_lit, hc j hj]
   rw [← HX.out.1] at hv
   simp only [iC, List.getElem?_map, List.getElem?_eq_getElem hj, Option.map_some, Option.some.injEq] at hv
   rw [tm_get zs j hj]
   exact congrArg some hv
  have he : ∀ W : World, (binOp .eql 39 (.slice (some ad) n cap) (.slice none 0 0)).run Tryz.prog W = .ok (.bool false) W := fun _ => rfl
  have n1 : (n : Int) < ((n + 2 : Nat) : Int) := by omega
  have n2 : (n : Int) + 1 < ((n + 2 : Nat) : Int) := by omega
  have n3 : ((n : Int) + 1).toNat = n + 1 := by omega
  have n4 : (0 : Int) ≤ (n : Int) + 1 := by omega
  go_enter Tryz.func41, Tryz.ntmps41
  go_wp2_with (first
   | (at_make; refine wpList_make_full _ rfl _ _ 39 rfl w.heap.size 3 i0 _ 1 Tryz.underlying39 hi hz0 hz1 _ _ _ _ (n + 2) rfl rfl (by first | rfl | omega | exact q1) (by first | rfl | omega | exact q1) (by rw [hz2]; omega) (by unfold maxLen; omega) (by simp) ?_; intro w1 hown1 hgrow1; have F1 : Hid (Fr [] w w1) := (Fr.refl _ _).grown hgrow1 (fun k hk => by simp at hk); obtain ⟨Z, hZ1, hZ2⟩ : ∃ Z : List Value, Z.length = n + 2 ∧ w1.heap[w.heap.size]? = some (.cells Z.toArray 3 (0, 0)) := ⟨_, (by simpa using hown1.1), own_full hown1⟩; have HZ : Hid (Z.length = n + 2 ∧ w1.heap[w.heap.size]? = some (.cells Z.toArray 3 (0, 0))) := ⟨hZ1, hZ2⟩; clear hown1 hgrow1 hZ1 hZ2; have hcp0 : ∀ ty, (Builtin.copy_ #[39, 39] ty #[.slice (some ⟨w.heap.size, 0, none⟩) (n + 2) (n + 2), .slice (some ad) n cap]).run Tryz.prog w1 = .ok (goInt n) (w1.setCells w.heap.size 0 X) := (fun ty => by have h8 := run_copy_cells (P := Tryz.prog) w1 39 39 ty 3 w.heap.size 0 (n + 2) (n + 2) ad n cap X Tryz.underlying39 hsz1 (by rw [HX.out.2.1]; simp) (HSrc.out w1 F1.out) (fun j hj => by rw [Nat.zero_add, cell_of HZ.out.2, List.getElem?_toArray, List.getElem?_eq_getElem (by rw [HZ.out.1]; rw [HX.out.2.1] at hj; omega)]; rfl) (fun j hj => froz_of HZ.out.2 _) HX.out.2.2; rw [HX.out.2.1] at h8; exact h8); obtain ⟨⟨v1, g1⟩, g2, ⟨v2, g3⟩, g4, g5⟩ := dst_given HZ.out.1 HX.out.2.1 HZ.out.2; have g0 : (((w1.setCells w.heap.size 0 X).setCell ⟨w.heap.size, n, none⟩ (.int .i64 77)).setCell ⟨w.heap.size, n + 1, none⟩ (.int .i64 77)).cell? ⟨db, 0, none⟩ = some (.pointer (some ⟨b, 0, none⟩)) := (((fr_cells' (F := []) (w := w) (vb := w.heap.size) (Or.inr (Nat.le_refl _)) X 0 w1 F1.out).setCell _ (Or.inr (Nat.le_refl _))).setCell _ (Or.inr (Nat.le_refl _))).gb.cell c0 (by simp); obtain ⟨w2, hw2⟩ : ∃ w2, w1.setCells w.heap.size 0 X = w2 := ⟨_, rfl⟩; have H2 : Hid (w1.setCells w.heap.size 0 X = w2 ∧ (((w1.setCells w.heap.size 0 X).setCell ⟨w.heap.size, n, none⟩ (.int .i64 77)).setCell ⟨w.heap.size, n + 1, none⟩ (.int .i64 77)).heap[w.heap.size]? = some (.cells (X ++ [Value.int .i64 77, Value.int .i64 77]).toArray 3 (0, 0))) := ⟨hw2, g5⟩; rw [hw2] at hcp0 g0 g1 g2 g3 g4; clear g5 hw2))
  obtain ⟨gb, hgb⟩ : ∃ gb, w.heap.size = gb := ⟨_, rfl⟩
  obtain ⟨W3, hW3⟩ : ∃ W3, (w2.setCell ⟨w.heap.size, n, none⟩ (.int .i64 77)).setCell ⟨w.heap.size, n + 1, none⟩ (.int .i64 77) = W3 := ⟨_, rfl⟩
  have HG3 : Hid (Fr [] w W3 ∧ W3.heap[gb]? = some (.cells (X ++ [Value.int .i64 77, Value.int .i64 77]).toArray 3 (0, 0))) := by
   have h8 := H2.out.2
   rw [H2.out.1, hW3, hgb] at h8
   refine ⟨?_, h8⟩
   rw [← hW3, ← H2.out.1]
   exact ((fr_cells' (F := []) (w := w) (vb := w.heap.size) (Or.inr (Nat.le_refl _)) X 0 w1 F1.out).setCell _ (Or.inr (Nat.le_refl _))).setCell _ (Or.inr (Nat.le_refl _))
  rw [hW3, hgb]
  rw [hW3] at g0
  clear hW3 hcp0 g1 g2 g3 g4 H2 HZ F1 hgb
  have HSD : Hid (SD (sdO b rb lnv) B W3 db b rb s r ∧ RowG W3 (some ⟨gb, 0, none⟩) zs (n + 2) ∧ RowG W3 (some ad) zs cap) := ⟨HS.out.1.same HG3.out.1, rowG_iC (tl := [Value.int .i64 77, Value.int .i64 77]) (by rw [HX.out.1]; exact HG3.out.2) (by rw [HS.out.2.2.2.2.2]; omega), HS.out.2.2.1.fr HG3.out.1 (by simp)⟩
  have HP : Hid (Calls Tryz.prog 67 #[.pointer (some ⟨b, 0, none⟩), .slice (some ⟨gb, 0, none⟩) n (n + 2)] W3 (PC fC (sdO b rb lnv) B W3 db b rb s r q 68 #[.pointer (some ⟨rb, 0, none⟩), .slice (some ad) n cap])) := by
   have h8 := p_destroy HSD.out.1 HS.out.2.1 (some ⟨gb, 0, none⟩) (some ad) (n + 2) cap zs HSD.out.2.1 HSD.out.2.2 (fun k off e _ => by simp only [Option.some.injEq, Addr.mk.injEq] at e; rw [← e.1]; exact HSD.out.1.no HG3.out.2 (by decide)) (fun k off e h0 hm => by have h9 := HS.out.2.2.2.1 k off e h0; have h10 := (HSD.out.1.lt k hm).1; omega) HS.out.2.2.2.2.1 (by rw [HS.out.2.2.2.2.2]; omega) hq
   rw [HS.out.2.2.2.2.2] at h8
   exact h8
  have HR5 : Hid (∀ w5, SN (sdO b rb lnv) B W3 w5 db b rb s r q → w5.heap[gb]? = some (.cells (X ++ [Value.int .i64 77, Value.int .i64 77]).toArray 3 (0, 0)) ∧ RowG w5 (some ad) zs cap) := fun w5 h5 => by
   refine ⟨h5.keep HSD.out.1 HG3.out.2 (by decide), ?_⟩
   obtain ⟨_, _, _, _, f, _⟩ := h5
   exact HSD.out.2.2.fr f (fun k off e h0 hm => by have h9 := HS.out.2.2.2.1 k off e h0; have h10 := (HSD.out.1.lt k hm).1; omega)
  have HCl : Hid (∀ W : World, W.heap[gb]? = some (.cells (X ++ [Value.int .i64 77, Value.int .i64 77]).toArray 3 (0, 0)) → W.cell? ⟨gb, n, none⟩ = some (.int .i64 77) ∧ W.cell? ⟨gb, n + 1, none⟩ = some (.int .i64 77)) := fun W hW => by
   have hl := HX.out.2.1
   refine ⟨?_, ?_⟩ <;> rw [cell_of hW, List.getElem?_toArray, List.getElem?_append_right (by omega), hl] <;> simp
  have HSame : Hid (∀ W : World, W.heap[gb]? = some (.cells (X ++ [Value.int .i64 77, Value.int .i64 77]).toArray 3 (0, 0)) → RowG W (some ad) zs cap → Calls Tryz.prog 47 #[.slice (some ⟨gb, 0, none⟩) n (n + 2), .slice (some ad) n cap] W fun e w' => e = .returned (.bool true) ∧ ∃ q, w' = W.drewN q) := fun W h1 h2 => by
   have h8 := sameInts_any (some ⟨gb, 0, none⟩) (some ad) zs (n + 2) cap W (rowG_iC (tl := [Value.int .i64 77, Value.int .i64 77]) (by rw [HX.out.1]; exact h1) (by rw [HS.out.2.2.2.2.2]; omega)) h2 (by rw [HS.out.2.2.2.2.2]; omega)
   rw [HS.out.2.2.2.2.2] at h8
   exact h8
  go_wp2_with (first
   | (go_at_call 67; refine HP.out.mono ?_; rintro e w4 ⟨c, rfl, b4, hr4⟩; have H4 : Hid (∀ W, Fr [] w4 W → Calls Tryz.prog 68 #[.pointer (some ⟨rb, 0, none⟩), .slice (some ad) n cap] W fun e2 w2 => e2 = .returned (.int .i64 c) ∧ SN (sdO b rb lnv) B W3 w2 db b rb s r q) := hr4; have c41 : w4.cell? ⟨db, 1, none⟩ = some (.pointer (some ⟨rb, 0, none⟩)) := (by rw [cell_of b4.1]; rfl); rw [show fC c = Value.int .i64 c from rfl]; clear b4 hr4)
   | (go_at_call 68; refine (H4.out _ Fr.dd).mono ?_; rintro e w5 ⟨rfl, sn5⟩; have H5 : Hid (SN (sdO b rb lnv) B W3 w5 db b rb s r q) := sn5; clear sn5)
   | (go_at_call 47; refine (HSame.out _ (HR5.out w5 H5.out).1 (HR5.out w5 H5.out).2).mono ?_; rintro e w6 ⟨rfl, q6, hq6⟩; have H6 : Hid (SN (sdO b rb lnv) B W3 w6 db b rb s r q) := (by rw [hq6]; exact H5.out.down ((Fr.refl _ _).drewN _)); obtain ⟨x1, x2⟩ := HCl.out w6 (HR5.out w6 H6.out).1; clear hq6))
  go_ret
  exact ⟨rfl, H6.out.up HG3.out.1⟩
structure Pt where
 c : Nat
 r : RSto
 lg : List UInt8
def Pt.lr (p : Pt) : List UInt8 × RSto := (p.lg, p.r)
def Pt.cs (p : Pt) : List Value := [.int .i64 p.lg.length, .pointer (some ⟨p.c, 0, none⟩)]
def ptC (ps : List Pt) : List Value := ps.flatMap Pt.cs
structure SdR where
 db : Nat
 b : Nat
 rb : Nat
 s : Sto
 r : RSto
 lnv : Value
 ps : List Pt
def SdR.ft (x : SdR) : List Nat := sft x.b x.rb x.s x.r
def SdR.o (x : SdR) : Obj := sdO x.b x.rb x.lnv
structure LnM (B : Nat) (w : World) (x : SdR) : Prop where
 row : w.ownsRow B 57 2 x.lnv x.ps.length (ptC x.ps)
 cl : ∀ p ∈ x.ps, RRep B w p.c p.r
structure LnP (di : Option Nat) (i : Nat) (x : SdR) (q : Nat) : Prop where
 ch : ∃ d n, PCh d n (x.ps.map Pt.lr)
 li : ∀ p, x.ps.getLast? = some p → LStep p.lg p.r x.s.log x.r
 ex : di ≠ some i → ∀ p, x.ps.getLast? = some p → p.lg = x.s.log ∧ RQ p.r x.r
 len : x.ps.length ≤ q + 1
theorem LnM.fr {B : Nat} {w w' : World} {x : SdR} (h : LnM B w x) {F : List Nat} (hf : Fr F w w') (h1 : ∀ j ∈ F, ∀ cur, w.heap[j]? ≠ some (.cells cur 57 (0, 0))) (h2 : ∀ p ∈ x.ps, ∀ k ∈ rfoot p.c p.r, k ∉ F) : LnM B w' x :=
 ⟨own_tagged h.row hf h1, fun p hp => (h.cl p hp).kept hf (h2 p hp)⟩
theorem LnM.same {B : Nat} {w w' : World} {x : SdR} (h : LnM B w x) (hf : Fr [] w w') : LnM B w' x := h.fr hf (by simp) (by simp)
theorem LnP.le {di : Option Nat} {i : Nat} {x : SdR} {q q' : Nat} (h : LnP di i x q) (hq : q ≤ q') : LnP di i x q' := ⟨h.ch, h.li, h.ex, by have := h.len; omega⟩
structure LS (w0 : World) (di : Option Nat) (B : Nat) (w : World) (wb : Nat) (sv tv : Value) (T : List ByteArray) (kv mv : Value) (sds : List SdR) (K M : List (Nat × Nat × Nat)) (q : Nat) : Prop where
 wm : WM B w wb sv tv T kv mv (sds.map SdR.db) K M
 sd : ∀ (i : Nat) (x : SdR), sds[i]? = some x → SD x.o B w x.db x.b x.rb x.s x.r ∧ Sim x.s x.r q
 dj : ∀ (i j : Nat) (x y : SdR), i ≠ j → sds[i]? = some x → sds[j]? = some y → ∀ k ∈ x.ft, k ∉ y.ft
 k4 : K.length % 4 = 0 ∧ M.length % 4 = 0
 kl : K.length ≤ 4 * q ∧ M.length ≤ 4 * q
 kb : (∀ x ∈ K, x.2.1 ≤ 16) ∧ (∀ x ∈ M, x.2.1 ≤ 16)
 be : Below B w0 w
 tl : T.length ≤ q ∧ ∀ t ∈ T, t.size ≤ 1000
 ln : ∀ (i : Nat) (x : SdR), sds[i]? = some x → LnM B w x ∧ LnP di i x q
 cd : ∀ (i j : Nat) (x y : SdR), sds[i]? = some x → sds[j]? = some y → ∀ p ∈ x.ps, ∀ k ∈ rfoot p.c p.r, k ∉ y.ft
 ld : ∀ (i j : Nat) (x y : SdR) (k : Nat), i ≠ j → sds[i]? = some x → sds[j]? = some y → x.lnv.ownBlock = some k → y.lnv.ownBlock ≠ some k
 nd : (sds.map SdR.db).Nodup
def LPT (w0 : World) (di : Option Nat) (B : Nat) (w' : World) (wb : Nat) (sv tv : Value) (T : List ByteArray) (D : List Nat) (q : Nat) : Prop := ∃ kv mv sds K M, LS w0 di B w' wb sv tv T kv mv sds K M q ∧ sds.map SdR.db = D
def LP (w0 : World) (di : Option Nat) (B : Nat) (w' : World) (wb : Nat) (sv : Value) (D : List Nat) (q : Nat) : Prop := ∃ tv T kv mv sds K M, LS w0 di B w' wb sv tv T kv mv sds K M q ∧ sds.map SdR.db = D
section
variable {w0 : World} {di : Option Nat} {B : Nat} {w w' : World} {wb : Nat} {sv tv : Value} {T : List ByteArray} {kv mv : Value} {sds : List SdR} {K M : List (Nat × Nat × Nat)} {q : Nat}
theorem sft_tags {b rb : Nat} {s : Sto} {r : RSto} {db : Nat} {O : Obj} (h : SD O B w db b rb s r) : ∀ j ∈ sft b rb s r, ∀ cur t, w.heap[j]? = some (.cells cur t (0, 0)) → t = 76 ∨ t = 112 ∨ t = 119 ∨ t = 125 ∨ t = 5 ∨ t = 86 ∨ t = 117 ∨ t = 129 := fun j hj cur t e => by
 rcases List.mem_append.1 hj with hj | hj
 · rcases foot_tag h.rep hj e with h | h | h | h | h
   · exact Or.inl h
   · exact Or.inr (Or.inl h)
   · exact Or.inr (Or.inr (Or.inl h))
   · exact Or.inr (Or.inr (Or.inr (Or.inl h)))
   · exact Or.inr (Or.inr (Or.inr (Or.inr (Or.inl h))))
 · rcases rfoot_tag h.rrep hj e with h | h | h
   · exact Or.inr (Or.inr (Or.inr (Or.inr (Or.inr (Or.inl h)))))
   · exact Or.inr (Or.inr (Or.inr (Or.inr (Or.inr (Or.inr (Or.inl h))))))
   · exact Or.inr (Or.inr (Or.inr (Or.inr (Or.inr (Or.inr (Or.inr h))))))
theorem LS.hB (h : LS w0 di B w wb sv tv T kv mv sds K M q) : B ≤ w.heap.size := by
 have h1 := h.wm.hw
 have h2 := (Array.getElem?_eq_some_iff.1 h.wm.blk).1
 omega
theorem LS.same (h : LS w0 di B w wb sv tv T kv mv sds K M q) (hf : Fr [] w w') : LS w0 di B w' wb sv tv T kv mv sds K M q :=
 ⟨h.wm.same hf, fun i x hx => ⟨(h.sd i x hx).1.same hf, (h.sd i x hx).2⟩, h.dj, h.k4, h.kl, h.kb, h.be.trans (hf.below h.hB (by simp)), h.tl, fun i x hx => ⟨(h.ln i x hx).1.same hf, (h.ln i x hx).2⟩, h.cd, h.ld, h.nd⟩
theorem LS.up (h : LS w0 di B w wb sv tv T kv mv sds K M q) : LS w0 di B w wb sv tv T kv mv sds K M (q + 1) :=
 ⟨h.wm, fun i x hx => ⟨(h.sd i x hx).1, (h.sd i x hx).2.le (by omega)⟩, h.dj, h.k4, ⟨by have := h.kl.1; omega, by have := h.kl.2; omega⟩, h.kb, h.be, ⟨by have := h.tl.1; omega, h.tl.2⟩, fun i x hx => ⟨(h.ln i x hx).1, (h.ln i x hx).2.le (by omega)⟩, h.cd, h.ld, h.nd⟩
theorem LS.dirty (h : LS w0 none B w wb sv tv T kv mv sds K M q) : LS w0 di B w wb sv tv T kv mv sds K M q :=
 ⟨h.wm, h.sd, h.dj, h.k4, h.kl, h.kb, h.be, h.tl, fun i x hx => ⟨(h.ln i x hx).1, ⟨(h.ln i x hx).2.ch, (h.ln i x hx).2.li, fun _ => (h.ln i x hx).2.ex (by simp), (h.ln i x hx).2.len⟩⟩, h.cd, h.ld, h.nd⟩
theorem LS.sideT (h : LS w0 none B w wb sv tv T kv mv sds K M q) {i : Nat} {x : SdR} (hx : sds[i]? = some x) (hn : SN x.o B w w' x.db x.b x.rb x.s x.r q) : LPT w0 (some i) B w' wb sv tv T (sds.map SdR.db) (q + 1) := by
 obtain ⟨s', r', sd', m', f, g, ls⟩ := hn
 have hil : i < sds.length := (List.getElem?_eq_some_iff.1 hx).1
 have ex : sds[i] = x := (List.getElem?_eq_some_iff.1 hx).2
 have hD : (sds.set i ⟨x.db, x.b, x.rb, s', r', x.lnv, x.ps⟩).map SdR.db = sds.map SdR.db := by
  rw [List.map_set]
  have e : (⟨x.db, x.b, x.rb, s', r', x.lnv, x.ps⟩ : SdR).db = (sds.map SdR.db)[i]'(by simpa using hil) := by rw [List.getElem_map, ex]
  rw [e, List.set_getElem_self]
 have sdi := (h.sd i x hx).1
 have tg := sft_tags sdi
 refine ⟨kv, mv, sds.set i ⟨x.db, x.b, x.rb, s', r', x.lnv, x.ps⟩, K, M, ⟨?_, fun j y hy => ?_, fun j1 j2 y1 y2 hne h1 h2 => ?_, h.k4, ⟨by have := h.kl.1; omega, by have := h.kl.2; omega⟩, h.kb, h.be.trans (f.below h.hB (fun k hk => (sdi.lt k hk).1)), ⟨by have := h.tl.1; omega, h.tl.2⟩, fun j y hy => ?_, fun j1 j2 y1 y2 h1 h2 p hp k hk hm => ?_, fun j1 j2 y1 y2 k hne h1 h2 => ?_, by rw [hD]; exact h.nd⟩, hD⟩
 · rw [hD]
   exact h.wm.fr f (fun j hj cur t e => by rcases tg j hj cur t e with h | h | h | h | h | h | h | h <;> subst h <;> decide)
 · by_cases e : j = i
   · subst e
     rw [List.getElem?_set_self hil] at hy
     cases hy
     exact ⟨sd', m'⟩
   · rw [List.getElem?_set_ne (Ne.symm e)] at hy
     have hj := h.sd j y hy
     refine ⟨hj.1.fr f (fun k hk hm => h.dj j i y x e hy hx k hk hm) (fun hm => ?_), hj.2.le (by omega)⟩
     have := tg y.db hm _ _ hj.1.blk
     simp at this
 · by_cases e1 : j1 = i
   · subst e1
     have e2 : j2 ≠ j1 := Ne.symm hne
     rw [List.getElem?_set_self hil] at h1
     rw [List.getElem?_set_ne (Ne.symm e2)] at h2
     cases h1
     intro k hk hm
     rcases g k hk with h3 | h3
     · exact h.dj j1 j2 x y2 hne hx h2 k h3 hm
     · have := ((h.sd j2 y2 h2).1.lt k hm).2
       omega
   · rw [List.getElem?_set_ne (Ne.symm e1)] at h1
     by_cases e2 : j2 = i
     · subst e2
       rw [List.getElem?_set_self hil] at h2
       cases h2
       intro k hk hm
       rcases g k hm with h3 | h3
       · exact h.dj j1 j2 y1 x hne h1 hx k hk h3
       · have := ((h.sd j1 y1 h1).1.lt k hk).2
         omega
     · rw [List.getElem?_set_ne (Ne.symm e2)] at h2
       exact h.dj j1 j2 y1 y2 hne h1 h2
 · have back : ∃ y0, sds[j]? = some y0 ∧ y.lnv = y0.lnv ∧ y.ps = y0.ps := by
     by_cases e : j = i
     · subst e
       rw [List.getElem?_set_self hil] at hy
       cases hy
       exact ⟨x, hx, rfl, rfl⟩
     · rw [List.getElem?_set_ne (Ne.symm e)] at hy
       exact ⟨y, hy, rfl, rfl⟩
   refine ⟨?_, ?_⟩
   · obtain ⟨y0, h0, e1, e2⟩ := back
     have h9 := (h.ln j y0 h0).1.fr f (fun k hk cur e => by have := tg k hk cur _ e; simp at this) (fun p hp k hk hm => h.cd j i y0 x h0 hx p hp k hk hm)
     exact ⟨by rw [e1, e2]; exact h9.row, by rw [e2]; exact h9.cl⟩
   · by_cases e : j = i
     · subst e
       rw [List.getElem?_set_self hil] at hy
       cases hy
       have hp := (h.ln j x hx).2
       exact ⟨hp.ch, fun p hpl => by
        obtain ⟨e1, e2⟩ := hp.ex (by simp) p hpl
        rw [e1]
        exact ls.rqL e2, fun hne => absurd rfl hne, by have := hp.len; show x.ps.length ≤ _; omega⟩
     · rw [List.getElem?_set_ne (Ne.symm e)] at hy
       have hp := (h.ln j y hy).2
       exact ⟨hp.ch, hp.li, fun _ => hp.ex (by simp), by have := hp.len; omega⟩
 · have h1' : ∃ z, sds[j1]? = some z ∧ z.ps = y1.ps := by
     by_cases e : j1 = i
     · subst e
       rw [List.getElem?_set_self hil] at h1
       cases h1
       exact ⟨x, hx, rfl⟩
     · rw [List.getElem?_set_ne (Ne.symm e)] at h1
       exact ⟨y1, h1, rfl⟩
   obtain ⟨z, hz, ez⟩ := h1'
   rw [← ez] at hp
   by_cases e : j2 = i
   · subst e
     rw [List.getElem?_set_self hil] at h2
     cases h2
     rcases g k hm with h3 | h3
     · exact h.cd j1 j2 z x hz hx p hp k hk h3
     · have := (((h.ln j1 z hz).1.cl p hp).lt k hk).2
       omega
   · rw [List.getElem?_set_ne (Ne.symm e)] at h2
     exact h.cd j1 j2 z y2 hz h2 p hp k hk hm
 · have hb : ∀ (j : Nat) (y : SdR), (sds.set i ⟨x.db, x.b, x.rb, s', r', x.lnv, x.ps⟩)[j]? = some y → ∃ z, sds[j]? = some z ∧ z.lnv = y.lnv := fun j y hy => by
     by_cases e : j = i
     · subst e
       rw [List.getElem?_set_self hil] at hy
       cases hy
       exact ⟨x, hx, rfl⟩
     · rw [List.getElem?_set_ne (Ne.symm e)] at hy
       exact ⟨y, hy, rfl⟩
   obtain ⟨z1, hz1, ez1⟩ := hb j1 y1 h1
   obtain ⟨z2, hz2, ez2⟩ := hb j2 y2 h2
   rw [← ez1, ← ez2]
   exact h.ld j1 j2 z1 z2 k hne hz1 hz2
theorem LPT.lp {D : List Nat} (h : LPT w0 di B w wb sv tv T D q) : LP w0 di B w wb sv D q := by
 obtain ⟨kv, mv, sds, K, M, h1, h2⟩ := h
 exact ⟨tv, T, kv, mv, sds, K, M, h1, h2⟩
theorem LS.side (h : LS w0 none B w wb sv tv T kv mv sds K M q) {i : Nat} {x : SdR} (hx : sds[i]? = some x) (hn : SN x.o B w w' x.db x.b x.rb x.s x.r q) : LP w0 (some i) B w' wb sv (sds.map SdR.db) (q + 1) := (h.sideT hx hn).lp
theorem LS.sides (h : LS w0 di B w wb sv tv T kv mv sds K M q) {F : List Nat} (hf : Fr F w w') (ht : ∀ j ∈ F, ∃ cur t, w.heap[j]? = some (.cells cur t (0, 0)) ∧ (t = 34 ∨ t = 39 ∨ t = 62 ∨ t = 3 ∨ t = 61 ∨ t = 9)) : ∀ (i : Nat) (x : SdR), sds[i]? = some x → SD x.o B w' x.db x.b x.rb x.s x.r ∧ Sim x.s x.r q := fun i x hx => by
 have hs := h.sd i x hx
 refine ⟨hs.1.fr hf (fun k hk hm => ?_) (fun hm => ?_), hs.2⟩
 · obtain ⟨cur, t, e, ht'⟩ := ht k hm
   refine hs.1.no e ?_ hk
   rcases ht' with rfl | rfl | rfl | rfl | rfl | rfl <;> decide
 · obtain ⟨cur, t, e, ht'⟩ := ht _ hm
   have h8 := hs.1.blk
   unfold SdR.o sdO at h8
   rw [e] at h8
   simp at h8
   have h9 := h8.2
   rcases ht' with rfl | rfl | rfl | rfl | rfl | rfl <;> cases h9
theorem LS.lines (h : LS w0 di B w wb sv tv T kv mv sds K M q) {F : List Nat} (hf : Fr F w w') (ht : ∀ j ∈ F, ∃ cur t, w.heap[j]? = some (.cells cur t (0, 0)) ∧ (t = 34 ∨ t = 39 ∨ t = 62 ∨ t = 3 ∨ t = 61 ∨ t = 9)) : ∀ (i : Nat) (x : SdR), sds[i]? = some x → LnM B w' x ∧ LnP di i x q := fun i x hx => by
 have hl := h.ln i x hx
 refine ⟨hl.1.fr hf (fun j hj cur e => ?_) (fun p hp k hk hm => ?_), hl.2⟩
 · obtain ⟨cur', t, e', ht'⟩ := ht j hj
   rw [e] at e'
   simp at e'
   have h9 := e'.2
   rcases ht' with rfl | rfl | rfl | rfl | rfl | rfl <;> cases h9
 · obtain ⟨cur', t, e', ht'⟩ := ht k hm
   rcases rfoot_tag (hl.1.cl p hp) hk e' with rfl | rfl | rfl <;> simp at ht'
theorem LS.keepM (h : LS w0 di B w wb sv tv T kv mv sds K M q) {gg : Nat} {cur : Array Value} (hg : w.heap[gg]? = some (.cells cur 3 (0, 0))) (hBg : B ≤ gg) (hp : KmPost B w w' wb gg sv tv T kv mv (sds.map SdR.db) K M) : LP w0 di B w' wb sv (sds.map SdR.db) (q + 1) := by
 obtain ⟨mv', M', hl, wm', f, hm⟩ := hp
 have hs := h.sides f (fun j hj => by
  rcases List.mem_cons.1 hj with rfl | hj
  · exact ⟨_, _, h.wm.blk, Or.inl rfl⟩
  · rcases List.mem_cons.1 hj with rfl | hj
    · exact ⟨_, _, hg, Or.inr (Or.inr (Or.inr (Or.inl rfl)))⟩
    · simp at hj
      obtain ⟨_, cur', e⟩ := own_tag h.wm.mo hj
      exact ⟨_, _, e, Or.inr (Or.inl rfl)⟩)
 have hln := h.lines f (fun j hj => by
  rcases List.mem_cons.1 hj with rfl | hj
  · exact ⟨_, _, h.wm.blk, Or.inl rfl⟩
  · rcases List.mem_cons.1 hj with rfl | hj
    · exact ⟨_, _, hg, Or.inr (Or.inr (Or.inr (Or.inl rfl)))⟩
    · simp at hj
      obtain ⟨_, cur', e⟩ := own_tag h.wm.mo hj
      exact ⟨_, _, e, Or.inr (Or.inl rfl)⟩)
 have k4 := h.k4
 have kl := h.kl
 exact ⟨tv, T, kv, mv', sds, K, M', ⟨wm', fun i x hx => ⟨(hs i x hx).1, (hs i x hx).2.le (by omega)⟩, h.dj, ⟨k4.1, by omega⟩, ⟨by omega, by omega⟩, ⟨h.kb.1, fun x hx => by
  rcases hm x hx with h1 | h1
  · exact h.kb.2 x h1
  · exact h1⟩, h.be.trans (f.below h.hB (fun k hk => by
    rcases List.mem_cons.1 hk with rfl | hk
    · exact h.wm.hw
    · rcases List.mem_cons.1 hk with rfl | hk
      · exact hBg
      · simp at hk
        exact (own_tag h.wm.mo hk).1)), ⟨by have := h.tl.1; omega, h.tl.2⟩, fun i x hx => ⟨(hln i x hx).1, (hln i x hx).2.le (by omega)⟩, h.cd, h.ld, h.nd⟩, rfl⟩
theorem LS.keepK (h : LS w0 di B w wb sv tv T kv mv sds K M q) {gg : Nat} {cur : Array Value} (hg : w.heap[gg]? = some (.cells cur 61 (0, 0))) (hBg : B ≤ gg) (hp : KsPost B w w' wb gg sv tv T mv kv (sds.map SdR.db) M K) : LP w0 di B w' wb sv (sds.map SdR.db) (q + 1) := by
 obtain ⟨kv', K', hl, wm', f, hm⟩ := hp
 have hs := h.sides f (fun j hj => by
  rcases List.mem_cons.1 hj with rfl | hj
  · exact ⟨_, _, h.wm.blk, Or.inl rfl⟩
  · rcases List.mem_cons.1 hj with rfl | hj
    · exact ⟨_, _, hg, Or.inr (Or.inr (Or.inr (Or.inr (Or.inl rfl))))⟩
    · simp at hj
      obtain ⟨_, cur', e⟩ := own_tag h.wm.ko hj
      exact ⟨_, _, e, Or.inr (Or.inr (Or.inl rfl))⟩)
 have hln := h.lines f (fun j hj => by
  rcases List.mem_cons.1 hj with rfl | hj
  · exact ⟨_, _, h.wm.blk, Or.inl rfl⟩
  · rcases List.mem_cons.1 hj with rfl | hj
    · exact ⟨_, _, hg, Or.inr (Or.inr (Or.inr (Or.inr (Or.inl rfl))))⟩
    · simp at hj
      obtain ⟨_, cur', e⟩ := own_tag h.wm.ko hj
      exact ⟨_, _, e, Or.inr (Or.inr (Or.inl rfl))⟩)
 have k4 := h.k4
 have kl := h.kl
 exact ⟨tv, T, kv', mv, sds, K', M, ⟨wm', fun i x hx => ⟨(hs i x hx).1, (hs i x hx).2.le (by omega)⟩, h.dj, ⟨by omega, k4.2⟩, ⟨by omega, by omega⟩, ⟨fun x hx => by
  rcases hm x hx with h1 | h1
  · exact h.kb.1 x h1
  · exact h1, h.kb.2⟩, h.be.trans (f.below h.hB (fun k hk => by
    rcases List.mem_cons.1 hk with rfl | hk
    · exact h.wm.hw
    · rcases List.mem_cons.1 hk with rfl | hk
      · exact hBg
      · simp at hk
        exact (own_tag h.wm.ko hk).1)), ⟨by have := h.tl.1; omega, h.tl.2⟩, fun i x hx => ⟨(hln i x hx).1, (hln i x hx).2.le (by omega)⟩, h.cd, h.ld, h.nd⟩, rfl⟩
theorem WM.addT {D : List Nat} (h : WM B w wb sv tv T kv mv D K M) {w9 : World} (hg : w.grownBy w9 tv.ownBlock) {u : ByteArray} {tv' : Value} (ho : w9.ownsRow B 9 1 tv' (T.length + 1) (T.map Value.string ++ [.string u])) : WM B (w9.setCell ⟨wb, 1, none⟩ tv') wb sv tv' (T ++ [u]) kv mv D K M ∧ Fr (wb :: tv.ownBlock.toList) w (w9.setCell ⟨wb, 1, none⟩ tv') ∧ w9.cell? ⟨wb, 1, none⟩ = some tv ∧ w9.frozen? ⟨wb, 1, none⟩ = false := by
 have ht : ∀ j, tv.ownBlock = some j → ∃ cur, w.heap[j]? = some (.cells cur 9 (0, 0)) := fun j hj => (own_tag h.to hj).2
 have hf : Fr tv.ownBlock.toList w w9 := (Fr.refl _ _).grown hg (fun k hk => Or.inl (by simp [hk]))
 have hnF : wb ∉ tv.ownBlock.toList := fun hm => by
  simp at hm
  obtain ⟨cur, e⟩ := ht wb hm
  rw [h.blk] at e
  simp at e
 have b9 : w9.heap[wb]? = some (.cells #[sv, tv, kv, mv] 34 (0, 0)) := by rw [hf.block wb (Array.getElem?_eq_some_iff.1 h.blk).1 hnF]; exact h.blk
 have hf2 : Fr (wb :: tv.ownBlock.toList) w (w9.setCell ⟨wb, 1, none⟩ tv') := (hf.mono (fun k hk => List.mem_cons_of_mem _ hk)).setCell _ (Or.inl (by simp))
 have hno : ∀ t : TypeId, t ≠ 34 → t ≠ 9 → ∀ j ∈ wb :: tv.ownBlock.toList, ∀ cur, w.heap[j]? ≠ some (.cells cur t (0, 0)) := fun t h1 h2 j hj cur e => by
  rcases List.mem_cons.1 hj with rfl | hj
  · rw [h.blk] at e
    simp at e
    exact h1 e.2.symm
  · simp at hj
    obtain ⟨cur', e'⟩ := ht j hj
    rw [e'] at e
    simp at e
    exact h2 e.2.symm
 refine ⟨⟨by rw [heap_setCell_same _ _ _ _ _ _ b9]; rfl, own_tagged h.so hf2 (hno 35 (by decide) (by decide)), own_tagged h.ko hf2 (hno 62 (by decide) (by decide)), own_tagged h.mo hf2 (hno 39 (by decide) (by decide)), fun i y hy => ⟨(h.kk i y hy).1, (h.kk i y hy).2.fr hf2 (hno 61 (by decide) (by decide))⟩, fun i y hy => ⟨(h.mi i y hy).1, (h.mi i y hy).2.fr hf2 (hno 3 (by decide) (by decide))⟩, h.hw, ?_⟩, hf2, by rw [cell_of b9]; rfl, froz_of b9 _⟩
 rw [List.length_append, List.length_singleton, List.map_append, List.map_singleton]
 refine own_of_block ho (fun j hj => heap_setCell_other _ _ _ _ (fun e => ?_))
 obtain ⟨_, cur, h4⟩ := own_tag ho hj
 rw [e, b9] at h4
 simp at h4
theorem LS.addT (h : LS w0 di B w wb sv tv T kv mv sds K M q) (hT : T.length + 1 ≤ q) {w9 : World} (hg : w.grownBy w9 tv.ownBlock) {u : ByteArray} (hu : u.size ≤ 1000) {tv' : Value} (ho : w9.ownsRow B 9 1 tv' (T.length + 1) (T.map Value.string ++ [.string u])) : LS w0 di B (w9.setCell ⟨wb, 1, none⟩ tv') wb sv tv' (T ++ [u]) kv mv sds K M q ∧ w9.cell? ⟨wb, 1, none⟩ = some tv ∧ w9.frozen? ⟨wb, 1, none⟩ = false := by
 obtain ⟨wm', f, c1, z1⟩ := h.wm.addT hg ho
 have hs := h.sides f (fun j hj => by
  rcases List.mem_cons.1 hj with rfl | hj
  · exact ⟨_, _, h.wm.blk, Or.inl rfl⟩
  · simp at hj
    obtain ⟨_, cur', e⟩ := own_tag h.wm.to hj
    exact ⟨_, _, e, Or.inr (Or.inr (Or.inr (Or.inr (Or.inr rfl))))⟩)
 have hln := h.lines f (fun j hj => by
  rcases List.mem_cons.1 hj with rfl | hj
  · exact ⟨_, _, h.wm.blk, Or.inl rfl⟩
  · simp at hj
    obtain ⟨_, cur', e⟩ := own_tag h.wm.to hj
    exact ⟨_, _, e, Or.inr (Or.inr (Or.inr (Or.inr (Or.inr rfl))))⟩)
 refine ⟨⟨wm', hs, h.dj, h.k4, h.kl, h.kb, h.be.trans (f.below h.hB (fun k hk => ?_)), ⟨by rw [List.length_append]; simpa using hT, fun t ht => ?_⟩, hln, h.cd, h.ld, h.nd⟩, c1, z1⟩
 · rcases List.mem_cons.1 hk with rfl | hk
   · exact h.wm.hw
   · simp at hk
     exact (own_tag h.wm.to hk).1
 · rcases List.mem_append.1 ht with ht | ht
   · exact h.tl.2 t ht
   · have e : t = u := by simpa using ht
     rw [e]
     exact hu
end
end Go.Proofs.YthdhegmlknpllaaGreat
