import Derived.Test.YthdhegmlknpllabGreatDoorM46
import Derived.Test.YthdhegmlknpllabGreatDoorM21
/-
  The walks of tetherkeep's image (28), same (10), based (11).
-/
namespace Go.Proofs.YthdhegmlknpllabGreatDoor
open Go.RowKit Go.Maps Go.MuLone

theorem imCells_get (im : List Img) (vs : List Value) (j : Nat) (h : j < im.length) : (imCells im vs)[j]? = some (1000001 + (j : Int), ((im.getD j ⟨0, []⟩).time, vs.getD j (.slice none 0 0))) := by
  unfold imCells
  rw [List.getElem?_map, List.getElem?_range h]
  rfl
theorem imCells_len (im : List Img) (vs : List Value) : (imCells im vs).length = im.length := by simp [imCells]

set_option maxRecDepth 100000 in
set_option maxHeartbeats 1600000 in
theorem image_any (w0 : World) (N : NC) (x : PS) (w : World) (h : Net w0 w N x) (g : Int) (hg : Gv x.im.length g) (hq : x.q ≤ 700000) :
    Calls Tryz.prog 28 #[.pointer (some ⟨N.nb, 0, none⟩), .int .i64 g] w fun e w' => ∃ v base, e = .returned (.tuple #[.agg #[.int .i64 g, .int .i64 (tI x.im g), v], .bool true]) ∧ w'.ownsRow base 9 1 v N.n (b4S (imOf x.im g).blk) ∧ Fr [] w w' := by
  obtain ⟨rv, wv, iv, vs, M⟩ := h.m
  obtain ⟨J, hJ⟩ : ∃ J : Nat, (g - 1000001).toNat = J := ⟨_, rfl⟩
  have hg1 := hg.1
  have hg2 := hg.2
  have hJl : J < x.im.length := by omega
  have hgJ : g = 1000001 + (J : Int) := by omega
  obtain ⟨ia, ic, hiv⟩ := own_shape M.io
  subst hiv
  obtain ⟨k, hk⟩ : ∃ k, x.im.length = k := ⟨_, rfl⟩
  obtain ⟨ig, hig, hicap, hicl⟩ := own_addr M.io (by omega)
  subst hig
  have x4 := M.cells.2.2.2.2.1
  have hkq : k ≤ 700000 := by have := h.I.nq; omega
  have HC : Hid (∀ j, j < k → w.cell? ⟨ig, j * 3, none⟩ = some (.int .i64 (1000001 + (j : Int))) ∧ w.cell? ⟨ig, j * 3 + 1, none⟩ = some (.int .i64 (x.im.getD j ⟨0, []⟩).time) ∧ w.cell? ⟨ig, j * 3 + 2, none⟩ = some (vs.getD j (.slice none 0 0))) := fun j hj => by
    have hjl : j < (imCells x.im vs).length := by rw [imCells_len]; omega
    obtain ⟨g0, g1, g2⟩ := imC_get (imCells x.im vs) j hjl
    have e := imCells_get x.im vs j (by omega)
    rw [List.getElem?_eq_getElem hjl] at e
    have e' := Option.some.inj e
    rw [e'] at g0 g1 g2
    exact ⟨(hicl _ (by omega)).trans g0, (hicl _ (by omega)).trans g1, (hicl _ (by omega)).trans g2⟩
  have HV : Hid (w.ownsRow N.BN 9 1 (vs.getD J (.slice none 0 0)) N.n (b4S (imOf x.im g).blk) ∧ tI x.im g = (x.im.getD J ⟨0, []⟩).time) := ⟨by have h8 := M.vo J hJl; unfold imOf; rw [hJ]; exact h8, by unfold tI imOf; rw [hJ]⟩
  obtain ⟨w1, hw1⟩ : ∃ w1, w.alloc (.cells #[.int .i64 0, .int .i64 0, .slice none 0 0] 60) = w1 := ⟨_, rfl⟩
  obtain ⟨rb, hrb⟩ : ∃ rb, w.heap.size = rb := ⟨_, rfl⟩
  have n1 : w1.heap[rb]? = some (.cells #[.int .i64 0, .int .i64 0, .slice none 0 0] 60 (0, 0)) := by rw [← hw1, ← hrb]; exact heap_alloc_new w _
  have f1 : Fr [] w w1 := by rw [← hw1]; exact (Fr.refl _ _).alloc _
  have y4 : w1.cell? ⟨N.nb, 4, none⟩ = some (.slice (some ⟨ig, 0, none⟩) k ic) := by rw [hk] at x4; exact f1.gb.cell x4 (by simp)
  have HF : Hid (Fr [] w w1 ∧ w1.heap[rb]? = some (.cells #[.int .i64 0, .int .i64 0, .slice none 0 0] 60 (0, 0)) ∧ w.heap.size = rb) := ⟨f1, n1, hrb⟩
  have q0 : w1.cell? ⟨rb, 0, none⟩ = some (.int .i64 0) := by rw [cell_of n1]; rfl
  have q1 : w1.cell? ⟨rb, 1, none⟩ = some (.int .i64 0) := by rw [cell_of n1]; rfl
  have q2 : w1.cell? ⟨rb, 2, none⟩ = some (.slice none 0 0) := by rw [cell_of n1]; rfl
  have u0 : w1.frozen? ⟨rb, 0, none⟩ = false := froz_of n1 _
  have u1 : w1.frozen? ⟨rb, 1, none⟩ = false := froz_of n1 _
  have u2 : w1.frozen? ⟨rb, 2, none⟩ = false := froz_of n1 _
  have hw1' := hw1
  have hJk : J < k := by omega
  have HG : Hid (g = 1000001 + (J : Int)) := hgJ
  rw [hk] at hicap
  have hicz : (k : Int) ≤ (ic : Int) := by omega
  subst hgJ
  clear M h hicl hJ hk x4 n1 f1 hw1 hg1 hg2 hg hJl
  go_enter Tryz.func28, Tryz.ntmps28
  go_wp2
  go_loopw [6] (fun i wr => ∃ m : Nat, m ≤ J ∧ i = .int .i64 m ∧ Hid (Fr [] w1 wr)) (fun i _ => J + 1 - (intOf i).toNat)
  case atStart => exact ⟨0, Nat.zero_le _, rfl, Fr.refl _ _⟩
  case round =>
    obtain ⟨m, hm, rfl, HK⟩ := hrel
    obtain ⟨W3, hW3⟩ : ∃ W3, W3 = wr := ⟨_, rfl⟩
    subst hW3
    clear hw1'
    have F3 : Hid (Fr [] w W3) := HF.out.1.trans HK.out (by simp)
    have z4 : W3.cell? ⟨N.nb, 4, none⟩ = some (.slice (some ⟨ig, 0, none⟩) k ic) := HK.out.gb.cell y4 (by simp)
    have b3 : W3.heap[rb]? = some (.cells #[.int .i64 0, .int .i64 0, .slice none 0 0] 60 (0, 0)) := by rw [HK.out.block rb (Array.getElem?_eq_some_iff.1 HF.out.2.1).1 (by simp)]; exact HF.out.2.1
    have B3 : Hid (W3.heap[rb]? = some (.cells #[.int .i64 0, .int .i64 0, .slice none 0 0] 60 (0, 0))) := b3
    clear q0 q1 q2 u0 u1 u2 y4
    have q0 : W3.cell? ⟨rb, 0, none⟩ = some (.int .i64 0) := by rw [cell_of b3]; rfl
    have q1 : W3.cell? ⟨rb, 1, none⟩ = some (.int .i64 0) := by rw [cell_of b3]; rfl
    have q2 : W3.cell? ⟨rb, 2, none⟩ = some (.slice none 0 0) := by rw [cell_of b3]; rfl
    have u0 : W3.frozen? ⟨rb, 0, none⟩ = false := froz_of b3 _
    have u1 : W3.frozen? ⟨rb, 1, none⟩ = false := froz_of b3 _
    have u2 : W3.frozen? ⟨rb, 2, none⟩ = false := froz_of b3 _
    clear b3
    have hmk : m < k := by omega
    have hmz : (m : Int) < (k : Int) := by omega
    have hm0 : (0 : Int) ≤ (m : Int) := by omega
    obtain ⟨c0, c1, c2⟩ := HC.out m hmk
    have d0 : W3.cell? ⟨ig, m * 3, none⟩ = some (.int .i64 (1000001 + (m : Int))) := F3.out.gb.cell c0 (by simp)
    have d1 : W3.cell? ⟨ig, m * 3 + 1, none⟩ = some (.int .i64 (x.im.getD m ⟨0, []⟩).time) := F3.out.gb.cell c1 (by simp)
    have d2 : W3.cell? ⟨ig, m * 3 + 2, none⟩ = some (vs.getD m (.slice none 0 0)) := F3.out.gb.cell c2 (by simp)
    clear c0 c1 c2
    by_cases hlt : m < J
    · have hne : ¬ (1000001 + (m : Int)) = 1000001 + (J : Int) := by omega
      have hne1 : ((1000001 + (m : Int)) == 1000001 + (J : Int)) = false := by simp; omega
      have hne2 : ¬ (m : Int) = (J : Int) := by omega
      have hne3 : ¬ m = J := by omega
      go_wp2
      go_roundw
      case rel => exact ⟨m + 1, by omega, by go_num, HK⟩
      case measure => simp [intOf]; omega
    · have hmm : m = J := by omega
      subst hmm
      obtain ⟨tm, htm⟩ : ∃ tm, (x.im.getD m ⟨0, []⟩).time = tm := ⟨_, rfl⟩
      obtain ⟨v, hv⟩ : ∃ v, vs.getD m (.slice none 0 0) = v := ⟨_, rfl⟩
      have HT : Hid (tI x.im (1000001 + (m : Int)) = tm ∧ w.ownsRow N.BN 9 1 v N.n (b4S (imOf x.im (1000001 + (m : Int))).blk)) := ⟨by rw [HV.out.2, htm], by rw [← hv]; exact HV.out.1⟩
      obtain ⟨va, vc, hvs⟩ := own_shape HT.out.2
      rw [htm] at d1
      rw [hv] at d2
      clear htm hv
      subst hvs
      go_wp2
      have hrb : w.heap.size ≤ rb := by rw [HF.out.2.2]; exact Nat.le_refl _
      refine bodyPost_ret (v := .tuple #[.agg #[.int .i64 (1000001 + (m : Int)), .int .i64 tm, .slice va N.n vc], .bool true]) ?_ rfl ⟨.slice va N.n vc, N.BN, by rw [HT.out.1], own_fr' HT.out.2 ?_, ?_⟩
      · rw [results_cell_tmp rfl]
        go_simp
      · exact ((F3.out.setCell _ (Or.inr hrb)).setCell _ (Or.inr hrb)).setCell _ (Or.inr hrb)
      · exact ((F3.out.setCell _ (Or.inr hrb)).setCell _ (Or.inr hrb)).setCell _ (Or.inr hrb)
end Go.Proofs.YthdhegmlknpllabGreatDoor
