/-
  The walk of Marks (25).
-/
import Derived.Test.YthdhegmlknpllaaGreatHol
namespace Go.Proofs.YthdhegmlknpllaaGreat
open Go.RowKit Go.Maps Go.MuLone

def i1C (l : List Int) : List Value := l.map (Value.int .i64)
theorem i1C_len (l : List Int) : (i1C l).length = l.length := by simp [i1C]
def toldM (l : List (Int × Int)) (k : Nat) : List Int := (l.take k).map Prod.fst ++ List.replicate (l.length - k) 0
theorem toldM_len (l : List (Int × Int)) (k : Nat) (h : k ≤ l.length) : (toldM l k).length = l.length := by simp [toldM]; omega
theorem toldM_set (l : List (Int × Int)) (k : Nat) (h : k < l.length) : (toldM l k).set k l[k].1 = toldM l (k + 1) := by
  unfold toldM
  rw [List.set_append_right _ _ (by simp; omega), List.length_map, List.length_take, Nat.min_eq_left (Nat.le_of_lt h), Nat.sub_self, show l.length - k = (l.length - (k + 1)) + 1 by omega, List.replicate_succ, List.set_cons_zero, List.take_succ_eq_append_getElem h, List.map_append, List.append_assoc]
  rfl
theorem toldM_end (l : List (Int × Int)) : toldM l l.length = l.map Prod.fst := by simp [toldM]
theorem made_toldM (l : List (Int × Int)) : (madeCells (Value.int .i64 0).cells (l.length * 1)).toList = i1C (toldM l 0) := by
  apply List.ext_getElem
  · simp [madeCells, i1C, toldM]
  · intro i h1 h2
    simp [madeCells, i1C, toldM, Value.cells, Nat.mod_one]
theorem i1C_set (l : List Int) (k : Nat) (z : Int) : (i1C l).set k (.int .i64 z) = i1C (l.set k z) := by simp [i1C, List.map_set]
theorem info3 : (Tryz.prog.info? 3).map (fun i => (i.zero, i.size, i.bytes)) = some (some (.int .i64 0), 1, 8) := by kernel_rfl

set_option maxRecDepth 100000 in
set_option maxHeartbeats 1600000 in
theorem marks_any (B b : Nat) (s : Sto) (w : World) (h : Rep B w b 0 s) (hl : s.ms.length ≤ 12) :
    Calls Tryz.prog 46 #[.pointer (some ⟨b, 0, none⟩)] w fun e w' => ∃ gg, e = .returned (.slice (some ⟨gg, 0, none⟩) s.ms.length s.ms.length) ∧ w.heap.size ≤ gg ∧ w'.heap[gg]? = some (.cells (i1C (s.ms.map Prod.fst)).toArray 3 (0, 0)) ∧ Rep B w' b 0 s ∧ Fr (foot b s) w w' := by
  obtain ⟨i0, hi, hz0, hz1, hz2⟩ := info_parts info3
  have R1 := h.lock 1
  obtain ⟨w1, hw1⟩ : ∃ w1, w.setCell ⟨b, 0, none⟩ (.int .i32 1) = w1 := ⟨_, rfl⟩
  rw [hw1] at R1
  have HL := lock_free Tryz.muLib ⟨b, 0, none⟩ w h.cells.1 (h.frozen 0)
  have F1 : Fr (foot b s) w w1 := by rw [← hw1]; exact fr_lock b s w _
  have hz : w1.heap.size = w.heap.size := by rw [← hw1]; simp
  have HF : Hid (w.setCell ⟨b, 0, none⟩ (.int .i32 1) = w1 ∧ Rep B w1 b 1 s ∧ Fr (foot b s) w w1 ∧ w1.heap.size = w.heap.size) := ⟨hw1, R1, F1, hz⟩
  obtain ⟨ao, cap, hsv⟩ := own_shape h.ms
  have c4 : w1.cell? ⟨b, 6, none⟩ = some (.slice ao s.ms.length cap) := by rw [← hsv]; exact R1.cells.2.2.2.2.2.1
  have lb := World.block_lt_of_cell? _ _ c4
  obtain ⟨n, hn⟩ : ∃ n, s.ms.length = n := ⟨_, rfl⟩
  have HN : Hid (s.ms.length = n ∧ s.mv = .slice ao n cap) := ⟨hn, by rw [hsv, hn]⟩
  rw [hn] at c4 hl ⊢
  clear h R1 F1 hw1 hz hn hsv
  go_enter_defers Tryz.func46, Tryz.ntmps46
  go_wp2_with (first
    | (go_at_call 23; refine HL.mono ?_; rintro e w' ⟨rfl, hw'⟩; rw [HF.out.1] at hw'; have hw' := hw'.symm; subst hw')
    | (at_make; refine wpList_make_full _ rfl _ _ 39 rfl w1.heap.size 3 i0 _ 1 Tryz.underlying39 hi hz0 hz1 _ _ _ _ n rfl rfl rfl rfl (by rw [hz2]; omega) (by unfold maxLen; omega) (by simp) ?_; intro w2 hown2 hgrow2; have c4' : w2.cell? ⟨b, 6, none⟩ = some (.slice ao n cap) := (hgrow2.cell_far ⟨b, 6, none⟩ lb (by simp)).trans c4))
  have hz' := HF.out.2.2.2
  have hd : w2.heap[w1.heap.size]? = some (.cells (i1C (toldM s.ms 0)).toArray 3 (0, 0)) := by
    have := own_full hown2
    rw [← HN.out.1, made_toldM s.ms] at this
    exact this
  have HW : Hid (Rep B w2 b 1 s ∧ Fr (foot b s) w w2 ∧ w2.heap[w1.heap.size]? = some (.cells (i1C (toldM s.ms 0)).toArray 3 (0, 0))) := ⟨HF.out.2.1.kept0 ((Fr.refl _ _).grown hgrow2 (fun k h => by cases h)), HF.out.2.2.1.grown hgrow2 (fun k h => by cases h), hd⟩
  obtain ⟨gg, hgg⟩ : ∃ gg, w1.heap.size = gg := ⟨_, rfl⟩
  have hg0 : w.heap.size ≤ gg := by omega
  rw [hgg] at HW ⊢
  clear hown2 hgrow2 hd hz' c4 hgg
  go_loopw [24] (fun i wr => ∃ k : Nat, k ≤ n ∧ i = .int .i64 k ∧ Hid (Rep B wr b 1 s ∧ Fr (foot b s) w wr ∧ wr.heap[gg]? = some (.cells (i1C (toldM s.ms k)).toArray 3 (0, 0)))) (fun i _ => n - (intOf i).toNat)
  case atStart => exact ⟨0, Nat.zero_le _, rfl, HW⟩
  case round =>
    obtain ⟨k, hk, rfl, HK⟩ := hrel
    obtain ⟨W3, hW3⟩ : ∃ W3, W3 = wr := ⟨_, rfl⟩
    subst hW3
    clear HW c4'
    by_cases hlt : k < n
    · have hlt' : k < s.ms.length := by rw [HN.out.1]; exact hlt
      have ho := HK.out.1.ms
      rw [HN.out.2, HN.out.1] at ho
      obtain ⟨sg, hao, hcap, hc⟩ := own_addr ho (by omega)
      have hs := mkC_get s.ms k hlt'
      obtain ⟨x, hx⟩ : ∃ x, s.ms[k] = x := ⟨_, rfl⟩
      rw [hx] at hs
      subst hao
      have d0 : W3.cell? ⟨sg, k * 2, none⟩ = some (.int .i64 x.1) := by rw [hc _ (by omega)]; exact hs.1
      have d1 : W3.cell? ⟨sg, k * 2 + 1, none⟩ = some (.int .i64 x.2) := by rw [hc _ (by omega)]; exact hs.2
      have hgl : gg < W3.heap.size := (Array.getElem?_eq_some_iff.1 HK.out.2.2).1
      have hll : (i1C (toldM s.ms k)).length = n := by rw [i1C_len, toldM_len _ _ (by omega), HN.out.1]
      have g0 : ∃ v, W3.cell? ⟨gg, k, none⟩ = some v := by rw [cell_of HK.out.2.2, List.getElem?_toArray]; exact ⟨_, List.getElem?_eq_getElem (by omega)⟩
      obtain ⟨y0, g0⟩ := g0
      have z0 : W3.frozen? ⟨gg, k, none⟩ = false := froz_of HK.out.2.2 _
      have hltz : (k : Int) < (n : Int) := by omega
      have HK8 : Hid (Rep B ((W3.setCell ⟨gg, k, none⟩ (.int .i64 x.1)).alloc (.cells #[.int .i64 x.1, .int .i64 x.2] 125)) b 1 s ∧ Fr (foot b s) w ((W3.setCell ⟨gg, k, none⟩ (.int .i64 x.1)).alloc (.cells #[.int .i64 x.1, .int .i64 x.2] 125)) ∧ ((W3.setCell ⟨gg, k, none⟩ (.int .i64 x.1)).alloc (.cells #[.int .i64 x.1, .int .i64 x.2] 125)).heap[gg]? = some (.cells (i1C (toldM s.ms (k + 1))).toArray 3 (0, 0))) := by
        refine ⟨?_, ?_, ?_⟩
        · refine Rep.kept0 (w := W3.setCell ⟨gg, k, none⟩ (.int .i64 x.1)) (HK.out.1.of_foot (fun j hj => ?_)) ((Fr.refl _ _).alloc _)
          have hjg : j ≠ gg := by
            have := (HF.out.2.1.lt j hj).2
            rw [HF.out.2.2.2] at this
            omega
          rw [heap_setCell_other _ _ _ _ hjg]
        · exact (HK.out.2.1.setCell _ (Or.inr hg0)).alloc _
        · rw [Below.heap_alloc _ _ _ (by simpa using hgl)]
          rw [heap_setCell_same _ gg k _ _ _ HK.out.2.2]
          rw [← toldM_set s.ms k hlt', hx, ← i1C_set]
          simp
      clear hc hs ho HK hx hll
      go_wp2
      go_roundw
      case rel => exact ⟨k + 1, by omega, by go_num, HK8⟩
      case measure => simp [intOf]; omega
    · have hkk : k = n := by omega
      subst hkk
      have HK9 : Hid (Rep B W3 b 1 s ∧ Fr (foot b s) w W3 ∧ W3.heap[gg]? = some (.cells (i1C (s.ms.map Prod.fst)).toArray 3 (0, 0))) := by
        have := HK.out
        rw [← toldM_end, HN.out.1]
        exact this
      clear HK
      go_wp2
      refine leaves_cons (f := 24) (args := #[.pointer (some ⟨b, 0, none⟩)]) (by simp) (by simp [go_sem]) ?_
      refine (unlock_deferred Tryz.muLib ⟨b, 0, none⟩ .returning _ HK9.out.1.cells.1 (HK9.out.1.frozen 0)).mono ?_
      rintro e u' w'' ⟨rfl, rfl, rfl⟩
      refine ⟨_, results_tmp rfl _ _ _, gg, rfl, hg0, ?_, HK9.out.1.lock 0, HK9.out.2.1.setCell _ (Or.inl (by simp [foot]))⟩
      rw [heap_setCell_other _ _ _ _ (fun e => ?_)]
      · exact HK9.out.2.2
      · have := (HF.out.2.1.lt b (by simp [foot])).2
        rw [HF.out.2.2.2] at this
        simp at e
        omega
end Go.Proofs.YthdhegmlknpllaaGreat
