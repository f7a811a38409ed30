/-
  The reference's Marks (42), Snaps (27).
-/
import Derived.Test.YthdhegmlknpllaaGreatRat
namespace Go.Proofs.YthdhegmlknpllaaGreat
open Go.RowKit Go.Maps Go.MuLone

theorem i1C_next (l : List (Int × Int)) (k : Nat) (h : k < l.length) : i1C ((l.take (k + 1)).map Prod.fst) = i1C ((l.take k).map Prod.fst) ++ [.int .i64 l[k].1] := by
  rw [List.take_succ_eq_append_getElem h]
  simp only [i1C, List.map_append, List.map_cons, List.map_nil]

set_option maxRecDepth 100000 in
set_option maxHeartbeats 1600000 in
theorem rmarks_any (B b : Nat) (s : RSto) (w : World) (h : RRep B w b s) (hl : s.ms.length ≤ 1000000) :
    Calls Tryz.prog 48 #[.pointer (some ⟨b, 0, none⟩)] w fun e w' => ∃ v, e = .returned v ∧ w'.ownsRow w.heap.size 3 1 v s.ms.length (i1C (s.ms.map Prod.fst)) ∧ Fr [] w w' := by
  obtain ⟨i0, hi, hz0, hz1, hz2⟩ := info_parts info3
  obtain ⟨ao, cap, hmv⟩ := own_shape h.ms
  obtain ⟨n, hn⟩ : ∃ n, s.ms.length = n := ⟨_, rfl⟩
  have HO : Hid (RRep B w b s ∧ s.mv = .slice ao n cap ∧ s.ms.length = n) := ⟨h, by rw [hmv, hn], hn⟩
  rw [hn] at hl ⊢
  clear h hmv hn
  have c37 : w.cell? ⟨b, 37, none⟩ = some (.slice ao n cap) := by rw [← HO.out.2.1]; exact HO.out.1.cells.2.2.2.2.2
  go_enter Tryz.func48, Tryz.ntmps48
  go_wp2
  go_loopw [3, 4] (fun vg i wr => ∃ k : Nat, k ≤ n ∧ i = .int .i64 k ∧ Hid (Fr [] w wr ∧ wr.ownsRow w.heap.size 3 1 vg k (i1C ((s.ms.take k).map Prod.fst)))) (fun _ i _ => n - (intOf i).toNat)
  case atStart => exact ⟨0, Nat.zero_le _, rfl, Fr.refl _ _, World.ownsRow_nil _ _ _ _⟩
  case round =>
    obtain ⟨k, hk, rfl, HK⟩ := hrel
    obtain ⟨W3, hW3⟩ : ∃ W3, W3 = wr := ⟨_, rfl⟩
    subst hW3
    clear c37
    have HR : Hid (RRep B W3 b s) := HO.out.1.kept0 HK.out.1
    have c37 : W3.cell? ⟨b, 37, none⟩ = some (.slice ao n cap) := by rw [← HO.out.2.1]; exact HR.out.cells.2.2.2.2.2
    obtain ⟨va, vc, hsh⟩ := own_shape HK.out.2
    subst hsh
    by_cases hlt : k < n
    · have ho := HR.out.ms
      rw [HO.out.2.1, HO.out.2.2] at ho
      obtain ⟨gg, hgg, hcap, hcc⟩ := own_addr ho (by omega)
      subst hgg
      have hkl : k < s.ms.length := by rw [HO.out.2.2]; exact hlt
      have d0 : W3.cell? ⟨gg, k * 2, none⟩ = some (.int .i64 s.ms[k].1) := by rw [hcc _ (by omega)]; exact (mkC_get s.ms k hkl).1
      have HX := i1C_next s.ms k hkl
      obtain ⟨g, hg⟩ : ∃ g, s.ms[k].1 = g := ⟨_, rfl⟩
      rw [hg] at d0 HX
      have HX' : Hid (i1C ((s.ms.take (k + 1)).map Prod.fst) = i1C ((s.ms.take k).map Prod.fst) ++ [.int .i64 g]) := HX
      have hltz : (k : Int) < (n : Int) := by omega
      have hsz : w.heap.size ≤ W3.heap.size := HK.out.1.size
      clear ho hcc hg HX
      go_wp2_with (first
        | (at_builtin; refine wpList_append_own _ rfl _ _ 39 rfl w.heap.size 3 i0 _ 1 8 Tryz.underlying39 hi hz0 hz1 hz2 rfl (by omega) (.slice va k vc) k (i1C ((s.ms.take k).map Prod.fst)) rfl (HK.out.2.alloc _) ⟨W3.heap.size, 0, none⟩ 1 1 [.int .i64 g] rfl (by simp) (World.news_of_block (cs := #[.int .i64 g]) (t := 3) (fr := (0, 0)) (heap_alloc_new W3 _)) (by simp [Value.oneCell']) (by unfold maxLen; omega) (by omega) (by simp; omega) ?_; intro v9 w9 hown9 hgrow9 hne9
           have H9 : Hid (Fr [] w w9 ∧ w9.ownsRow w.heap.size 3 1 v9 (k + 1) (i1C ((s.ms.take (k + 1)).map Prod.fst))) := ⟨(HK.out.1.alloc _).grown hgrow9 (fun x hx => Or.inr (HK.out.2.lt x hx).1), by rw [HX'.out]; exact hown9⟩
           clear hown9 hgrow9 hne9))
      go_roundw
      case rel => exact ⟨k + 1, by omega, by go_num, H9⟩
      case measure => simp [intOf]; omega
    · have hkk : k = n := by omega
      subst hkk
      go_wp2
      go_ret
      have := HK.out.2
      rw [List.take_of_length_le (by rw [HO.out.2.2]; exact Nat.le_refl _)] at this
      exact ⟨_, rfl, this, HK.out.1⟩

def r3 (x : RSh) : Int × Int × Int := (x.guid, x.time, x.holds)
theorem tlC_next (l : List RSh) (k : Nat) (h : k < l.length) : tlC ((l.take (k + 1)).map r3) = tlC ((l.take k).map r3) ++ [.int .i64 l[k].guid, .int .i64 l[k].time, .int .i64 l[k].holds] := by
  rw [List.take_succ_eq_append_getElem h]
  simp only [tlC, List.map_append, List.flatMap_append, List.map_cons, List.map_nil, List.flatMap_cons, List.flatMap_nil, t3c, r3, List.append_nil]

set_option maxRecDepth 100000 in
set_option maxHeartbeats 3200000 in
theorem rsnaps_any (B b : Nat) (s : RSto) (w : World) (h : RRep B w b s) (hl : s.sh.length ≤ 12) :
    Calls Tryz.prog 33 #[.pointer (some ⟨b, 0, none⟩)] w fun e w' => ∃ v, e = .returned v ∧ w'.ownsRow w.heap.size 61 3 v s.sh.length (tlC (s.sh.map r3)) ∧ Fr [] w w' := by
  obtain ⟨i0, hi, hz0, hz1, hz2⟩ := info_parts info100
  obtain ⟨ao, cap, hsv⟩ := own_shape h.sh
  obtain ⟨n, hn⟩ : ∃ n, s.sh.length = n := ⟨_, rfl⟩
  have HO : Hid (RRep B w b s ∧ s.sv = .slice ao s.sh.length cap ∧ s.sh.length = n) := ⟨h, hsv, hn⟩
  rw [hn] at hl ⊢
  have c36 : w.cell? ⟨b, 36, none⟩ = some (.slice ao n cap) := by rw [← hn, ← hsv]; exact h.cells.2.2.2.2.1
  clear h hsv hn
  go_enter Tryz.func33, Tryz.ntmps33
  go_wp2
  go_loopw [3, 4] (fun vg i wr => ∃ k : Nat, k ≤ n ∧ i = .int .i64 k ∧ Hid (Fr [] w wr ∧ wr.ownsRow w.heap.size 61 3 vg k (tlC ((s.sh.take k).map r3)))) (fun _ i _ => n - (intOf i).toNat)
  case atStart => exact ⟨0, Nat.zero_le _, rfl, Fr.refl _ _, World.ownsRow_nil _ _ _ _⟩
  case round =>
    obtain ⟨k, hk, rfl, HK⟩ := hrel
    obtain ⟨W3, hW3⟩ : ∃ W3, W3 = wr := ⟨_, rfl⟩
    subst hW3
    clear c36
    have HR : Hid (RRep B W3 b s) := HO.out.1.kept0 HK.out.1
    have c36 : W3.cell? ⟨b, 36, none⟩ = some (.slice ao n cap) := by rw [← HO.out.2.2, ← HO.out.2.1]; exact HR.out.cells.2.2.2.2.1
    obtain ⟨va, vc, hsh⟩ := own_shape HK.out.2
    subst hsh
    by_cases hlt : k < n
    · have ho := HR.out.sh
      rw [HO.out.2.1] at ho
      obtain ⟨gg, hgg, hcap, hcc⟩ := own_addr ho (by rw [HO.out.2.2]; omega)
      subst hgg
      have hkl : k < s.sh.length := by rw [HO.out.2.2]; exact hlt
      have q0 := HR.out.shotC HO.out.2.1 k hkl 0 (by omega)
      have q1 := HR.out.shotC HO.out.2.1 k hkl 1 (by omega)
      have q2 := HR.out.shotC HO.out.2.1 k hkl 2 (by omega)
      have HX := tlC_next s.sh k hkl
      obtain ⟨x, hx⟩ : ∃ x, s.sh[k] = x := ⟨_, rfl⟩
      rw [hx] at q0 q1 q2 HX
      have d0 : W3.cell? ⟨gg, k * 36, none⟩ = some (.int .i64 x.guid) := q0
      have d1 : W3.cell? ⟨gg, k * 36 + 1, none⟩ = some (.int .i64 x.time) := q1
      have d2 : W3.cell? ⟨gg, k * 36 + 2, none⟩ = some (.int .i64 x.holds) := q2
      have HX' : Hid (tlC ((s.sh.take (k + 1)).map r3) = tlC ((s.sh.take k).map r3) ++ [.int .i64 x.guid, .int .i64 x.time, .int .i64 x.holds]) := HX
      have hltz : (k : Int) < (n : Int) := by omega
      have hz' : (0 : Int) ≤ (k : Int) := Int.natCast_nonneg _
      have hsz : w.heap.size ≤ W3.heap.size := HK.out.1.size
      rw [HO.out.2.2] at hcap
      have lb := World.block_lt_of_cell? _ _ c36
      have lg := World.block_lt_of_cell? _ _ d0
      have HOw : Hid (W3.ownsRow w.heap.size 61 3 (.slice va k vc) k (tlC ((s.sh.take k).map r3))) := HK.out.2
      have hnb : (Value.slice va k vc).ownBlock ≠ some b := fun e => by
        have h1 := (HK.out.2.lt b e).1
        have h2 := (HO.out.1.lt b (by simp [rfoot])).2
        omega
      have hng : (Value.slice va k vc).ownBlock ≠ some gg := fun e => by
        have h1 := (HK.out.2.lt gg e).1
        have h2 := (HO.out.1.lt gg (by simp [rfoot, HO.out.2.1, Value.ownBlock])).2
        omega
      clear ho hcc hx HX q0 q1 q2
      go_wp2
      go_region_held3 (fun w' => w'.cell? ⟨b, 36, none⟩ = some (.slice (some ⟨gg, 0, none⟩) n cap) ∧ w'.cell? ⟨gg, k * 36, none⟩ = some (.int .i64 x.guid) ∧ w'.cell? ⟨gg, k * 36 + 1, none⟩ = some (.int .i64 x.time) ∧ w'.cell? ⟨gg, k * 36 + 2, none⟩ = some (.int .i64 x.holds))
        (first
          | go_keep
          | (go_split_ands
             refine ⟨?_, ?_, ?_, ?_⟩
             · (rw [hgrow.cell_far _ (by simp; omega) (Ne.symm hnb)]; assumption)
             · (rw [hgrow.cell_far _ (by simp; omega) (Ne.symm hng)]; assumption)
             · (rw [hgrow.cell_far _ (by simp; omega) (Ne.symm hng)]; assumption)
             · (rw [hgrow.cell_far _ (by simp; omega) (Ne.symm hng)]; assumption)))
        ((refine step_append_lies _ (by rfl) _ _ _ (by rfl) w.heap.size 61 i0 _ 3 24 Tryz.underlying62 hi hz0 hz1 hz2 rfl (by omega) (.slice va k vc) k (tlC ((s.sh.take k).map r3)) (by rfl) ((HOw.out.alloc _).drew) ⟨W3.heap.size, 0, none⟩ 1 1 [.int .i64 x.guid, .int .i64 x.time, .int .i64 x.holds] (by rfl) (by rfl) (World.news_of_block (cs := #[.int .i64 x.guid, .int .i64 x.time, .int .i64 x.holds]) (t := 61) (fr := (0, 0)) (heap_alloc_new W3 _)) (by simp [Value.oneCell']) (by omega) (by unfold maxLen; omega) (by omega) (by simp; omega) (W3.heap.size + 1) (by simp) ?_; intro g9 cap9 w9 hown9 hgrow hat hlt9))
      all_goals
        have H9 : Hid (Fr [] w w9 ∧ w9.ownsRow w.heap.size 61 3 (.slice (some ⟨g9, 0, none⟩) (k + 1) cap9) (k + 1) (tlC ((s.sh.take (k + 1)).map r3))) := ⟨(HK.out.1.alloc _).drew.grown hgrow (fun x hx => Or.inr (HOw.out.lt x hx).1), by rw [HX'.out]; exact hown9⟩
        clear hown9 hgrow hat
        go_wp2
        go_roundw
        case rel => exact ⟨k + 1, by omega, by go_num, H9⟩
        case measure => simp [intOf]; omega
    · have hkk : k = n := by omega
      subst hkk
      go_wp2
      go_ret
      have := HK.out.2
      rw [List.take_of_length_le (by rw [HO.out.2.2]; exact Nat.le_refl _)] at this
      exact ⟨_, rfl, this, HK.out.1⟩
end Go.Proofs.YthdhegmlknpllaaGreat
