/-
  The reference's Mark (43): the first mark, where there is no list.
-/
import Derived.Test.YthdhegmlknpllaaGreatRmn
import Derived.Laws.AppendOwnNone
namespace Go.Proofs.YthdhegmlknpllaaGreat
open Go.RowKit Go.Maps Go.MuLone

set_option maxRecDepth 100000 in
set_option maxHeartbeats 1600000 in
/-- A mark where none is, and no list. -/
theorem rmark_nil (B b : Nat) (s : RSto) (g : Int) (j : Nat) (x : RSh) (w : World) (h : RRep B w b s) (hs : s.sh.length ≤ 12) (hf : fi (fun y : Int × Int => y.1 == g) 0 s.ms = -1) (hg : fi (fun y : RSh => y.guid == g) 0 s.sh = (j : Int)) (hx : s.sh[j]? = some x) (hms : s.ms = []) (hmn : s.mv = .slice none 0 0) :
    Calls Tryz.prog 43 #[.pointer (some ⟨b, 0, none⟩), .int .i64 g] w fun e w' => e = .returned (.int .i64 0) ∧ ∃ mv, RRep B w' b (s.setM (insM (g, x.came) s.ms) mv) ∧ Fr (rfoot b s) w w' ∧ (∀ k, mv.ownBlock = some k → w.heap.size ≤ k) := by
  obtain ⟨i0, i0h, hz0, hz1, hz2⟩ := info_parts info120
  have hj : j < s.sh.length := (List.getElem?_eq_some_iff.1 hx).1
  have HM := rmark_any B b s g w h (by rw [hms]; simp)
  have HS := rshot_any B b s g w h (by omega)
  rw [hf] at HM
  rw [hg] at HS
  obtain ⟨ao, cap, hsv⟩ := own_shape h.sh
  have ho := h.sh
  rw [hsv] at ho
  obtain ⟨sg, hsg, hcap, hcc⟩ := own_addr ho (by omega)
  subst hsg
  have c36 : w.cell? ⟨b, 36, none⟩ = some (.slice (some ⟨sg, 0, none⟩) s.sh.length cap) := by rw [← hsv]; exact h.cells.2.2.2.2.1
  obtain ⟨cm, hcm⟩ : ∃ cm, x.came = cm := ⟨_, rfl⟩
  have d3 : w.cell? ⟨sg, j * 36 + 3, none⟩ = some (.int .i64 cm) := by
    rw [h.shotC hsv j hj 3 (by omega)]
    rw [List.getElem?_eq_getElem hj] at hx
    have : s.sh[j] = x := by simpa using hx
    rw [this, ← hcm]
    rfl
  rw [hcm]
  have c37 : w.cell? ⟨b, 37, none⟩ = some (.slice none 0 0) := by rw [← hmn]; exact h.cells.2.2.2.2.2
  have HO : Hid (RRep B w b s ∧ s.mv = .slice none 0 0 ∧ s.ms = [] ∧ Tryz.prog.info? 129 = some i0) := ⟨h, hmn, hms, i0h⟩
  obtain ⟨m, hm⟩ : ∃ m, s.sh.length = m := ⟨_, rfl⟩
  rw [hm] at c36 hcap hj hs
  have j0 : ¬ ((j : Int) < 0) := by omega
  have hjm : (j : Int) < (m : Int) := by omega
  obtain ⟨w1, hw1⟩ : ∃ w1, w.alloc (.cells #[.int .i64 g, .int .i64 cm] 129) = w1 := ⟨_, rfl⟩
  obtain ⟨mb, hmb⟩ : ∃ mb, w.heap.size = mb := ⟨_, rfl⟩
  have HW : Hid (Fr [] w w1 ∧ w1.heap[mb]? = some (.cells #[.int .i64 g, .int .i64 cm] 129 (0, 0))) := ⟨by rw [← hw1]; exact (Fr.refl _ _).alloc _, by rw [← hw1, ← hmb]; exact heap_alloc_new w _⟩
  clear h hf hg hx ho hsv hcc hm hcm i0h hms hmn
  go_enter Tryz.func43, Tryz.ntmps43
  go_wp2_with (first
    | (go_at_call 66; refine HS.mono ?_; rintro e w' ⟨rfl, hw'⟩; have hw' := hw'.symm; subst hw')
    | (go_at_call 72; refine HM.mono ?_; rintro e w' ⟨rfl, hw'⟩; have hw' := hw'.symm; subst hw'))
  clear hw1 hmb HS HM c36 d3 c37
  go_loopw [8] (fun i wr => i = .int .i64 0 ∧ Hid (Fr [] w wr ∧ wr.heap[mb]? = some (.cells #[.int .i64 g, .int .i64 cm] 129 (0, 0)))) (fun _ _ => 0)
  case atStart => exact ⟨rfl, HW⟩
  case round =>
    obtain ⟨rfl, HK⟩ := hrel
    obtain ⟨W3, hW3⟩ : ∃ W3, W3 = wr := ⟨_, rfl⟩
    subst hW3
    clear HW
    have R3 := HO.out.1.kept0 HK.out.1
    have e37 : ∀ q, (W3.drewN q).cell? ⟨b, 37, none⟩ = some (.slice none 0 0) := fun q => by have := R3.cells.2.2.2.2.2; rw [HO.out.2.1] at this; exact this
    have em : ∀ q, (W3.drewN q).cell? ⟨mb, 1, none⟩ = some (.int .i64 cm) := fun q => by
      show W3.cell? ⟨mb, 1, none⟩ = _
      rw [cell_of HK.out.2]; rfl
    have em0 : ∀ q, (W3.drewN q).cell? ⟨mb, 0, none⟩ = some (.int .i64 g) := fun q => by
      show W3.cell? ⟨mb, 0, none⟩ = _
      rw [cell_of HK.out.2]; rfl
    have hi := HO.out.2.2.2
    clear R3
    go_wp2
    go_quiet (fail)
    have H4 : Hid (Fr [] w (W3.drewN nq)) := HK.out.1.drewQ nq
    have f37 := e37 nq
    have fm0 := em0 nq
    have fm1 := em nq
    generalize W3.drewN nq = W4 at H4 f37 fm0 fm1 ⊢
    clear e37 em HK em0
    go_wp2_with (first
      | (at_builtin; refine wpList_append_own_none rfl _ _ 84 rfl W4.heap.size 129 i0 2 Tryz.underlying84 hi (.slice none 0 0) 0 [] rfl (World.ownsRow_nil _ _ _ _) rfl ?_)
      | (at_builtin; refine wpList_append_own _ rfl _ _ 84 rfl W4.heap.size 129 i0 _ 2 16 Tryz.underlying84 hi hz0 hz1 hz2 rfl (by omega) (.slice none 0 0) 0 [] rfl (World.ownsRow_nil _ _ _ _) ⟨W4.heap.size, 0, none⟩ 1 1 [.int .i64 g, .int .i64 cm] rfl rfl (World.news_of_block (cs := #[.int .i64 g, .int .i64 cm]) (t := 129) (fr := (0, 0)) (heap_alloc_new W4 _)) (by simp [Value.oneCell']) (by unfold maxLen; omega) (by omega) (by simp) ?_; intro v6 w6 hown6 hgrow6 _
         have H6 : Hid (w6.ownsRow W4.heap.size 129 2 v6 1 [.int .i64 g, .int .i64 cm] ∧ Fr [] W4 w6) := ⟨hown6, ((Fr.refl _ _).alloc _).grown hgrow6 (fun x hx => by simp [Value.ownBlock] at hx)⟩
         have f37'' : w6.cell? ⟨b, 37, none⟩ = some (.slice none 0 0) := H6.out.2.gb.cell f37 (by simp)
         have fz : w6.frozen? ⟨b, 37, none⟩ = false := (HO.out.1.kept0 (H4.out.trans H6.out.2 (by simp))).frozen 37
         obtain ⟨ao6, c6, e6⟩ := own_shape H6.out.1
         subst e6
         clear hown6 hgrow6)
      | (at_builtin; refine wpList_append_own_none rfl _ _ 84 rfl W4.heap.size 129 i0 2 Tryz.underlying84 hi (.slice ao6 1 c6) 1 _ rfl H6.out.1 rfl ?_))
    go_ret
    exact ⟨rfl, rmark_fin (n := 0) (k := 0) HO.out.1 H4.out H6.out.2 (by rw [HO.out.2.2.1]; rfl) (by rw [HO.out.2.2.1]; rfl) (by rw [HO.out.2.2.1]; exact H6.out.1)⟩
end Go.Proofs.YthdhegmlknpllaaGreat
