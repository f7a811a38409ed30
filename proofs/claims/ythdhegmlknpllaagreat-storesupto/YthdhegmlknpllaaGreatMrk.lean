/-
  The walk of Mark (23), where nothing is marked yet.
-/
import Derived.Test.YthdhegmlknpllaaGreatSrt
namespace Go.Proofs.YthdhegmlknpllaaGreat
open Go.RowKit Go.Maps Go.MuLone

theorem info107 : (Tryz.prog.info? 125).map (fun i => (i.zero, i.size, i.bytes)) = some (some (.agg #[.int .i64 0, .int .i64 0]), 2, 16) := by kernel_rfl

def Sto.mark1 (s : Sto) (g c : Int) (mv : Value) : Sto := { s with ms := [(g, c)], mv := mv }

theorem Rep.marked {B : Nat} {w w' : World} {b : Nat} {q : Int} {s : Sto} (h : Rep B w b q s) {g c : Int} {mv : Value} (ho : w'.ownsRow B 125 2 mv 1 [.int .i64 g, .int .i64 c]) (hg : w.grownBy w' none) :
    Rep B (w'.setCell ⟨b, 6, none⟩ mv) b q (s.mark1 g c mv) := by
  obtain ⟨a1, a2, a3, a4, a5, a6⟩ := h.apart
  have hb : w'.heap[b]? = some (s.blk q) := by rw [hg.block b (h.lt b (by simp [foot])).2 (by simp)]; exact h.blk
  have hmb : ∀ k, mv.ownBlock = some k → k ≠ b := fun k hk e => by
    obtain ⟨_, cur, h4⟩ := own_tag ho hk
    rw [e, hb] at h4
    simp [Sto.blk] at h4
  refine ⟨?_, ?_, ?_, ?_, ?_, ?_, h.hb, h.hvb, h.hmb⟩
  · rw [heap_setCell_same w' b 6 _ _ _ hb]; rfl
  · rw [heap_setCell_other _ _ _ _ (by exact a1)]; exact (hg.block s.vb (h.lt s.vb (by simp [foot])).2 (by simp)).trans h.vol
  · refine own_of_block h.ss (fun k hk => ?_)
    rw [heap_setCell_other _ _ _ _ (a4 k hk).1, hg.block k (h.ss.lt k hk).2 (by simp)]
  · refine h.th.of_block ?_
    rw [heap_setCell_other _ _ _ _ (by exact a2)]
    exact hg.block s.mb (h.lt s.mb (by simp [foot])).2 (by simp)
  · exact own_of_block (w := w') ho (fun k hk => heap_setCell_other _ _ _ _ (hmb k hk))
  · refine own_of_block h.lg (fun k hk => ?_)
    rw [heap_setCell_other _ _ _ _ (a6 k hk).1, hg.block k (h.lg.lt k hk).2 (by simp)]

theorem mark_foot {b : Nat} {s : Sto} {g c : Int} {mv : Value} {N : Nat} (h : ∀ k, mv.ownBlock = some k → N ≤ k) (_h : s.mv = .slice none 0 0) : ∀ k ∈ foot b (s.mark1 g c mv), k ∈ foot b s ∨ N ≤ k := by
  intro k hk
  simp only [foot, Sto.mark1, List.mem_append, List.mem_cons, List.not_mem_nil, or_false, Option.mem_toList] at hk ⊢
  rcases hk with ((h1 | h1) | h1) | h1
  · exact Or.inl (Or.inl (Or.inl (Or.inl h1)))
  · exact Or.inl (Or.inl (Or.inl (Or.inr h1)))
  · exact Or.inr (h k h1)
  · exact Or.inl (Or.inr h1)

set_option maxRecDepth 100000 in
set_option maxHeartbeats 1600000 in
theorem mark_ok (B b : Nat) (s : Sto) (g : Int) (j : Nat) (x : Sn) (w : World) (h : Rep B w b 0 s) (hl : s.ss.length ≤ 12) (hf : fi (fun y : Sn => y.guid == g) 0 s.ss = (j : Int)) (hx : s.ss[j]? = some x) (hms : s.ms = []) (hmv : s.mv = .slice none 0 0) (hlg : s.log.length ≤ 140000000000000) :
    Calls Tryz.prog 42 #[.pointer (some ⟨b, 0, none⟩), .int .i64 g] w fun e w' => e = .returned (.int .i64 0) ∧ ∃ mv lv, Rep B w' b 0 ((s.mark1 g x.came mv).noted 77 (n4 g).ba lv) ∧ Fr (foot b s) w w' ∧ (∀ k, mv.ownBlock = some k → w.heap.size ≤ k) ∧ (∀ k, lv.ownBlock = some k → s.lv.ownBlock = some k ∨ w.heap.size ≤ k) := by
  obtain ⟨i0, hi, hz0, hz1, hz2⟩ := info_parts info107
  have HU : Hid (∀ W, Calls Tryz.prog 22 #[.int .i64 g] W fun e w' => e = .returned (.string (n4 g).ba) ∧ Fr [] W w') := fun W => number_any g W
  have HNt : Hid (∀ W mv, Rep B W b 1 (s.mark1 g x.came mv) → _) := fun W mv hW => note_any B b 1 (s.mark1 g x.came mv) 77 (n4 g).ba W hW (by show 4 ≤ 1000; omega) hlg
  obtain ⟨ba, hba⟩ : ∃ ba, (n4 g).ba = ba := ⟨_, rfl⟩
  rw [hba] at HU HNt ⊢
  clear hba
  have R1 := h.lock 1
  obtain ⟨w1, hw1⟩ : ∃ w1, w.setCell ⟨b, 0, none⟩ (.int .i32 1) = w1 := ⟨_, rfl⟩
  rw [hw1] at R1
  have hj : j < s.ss.length := (List.getElem?_eq_some_iff.1 hx).1
  have HL := lock_free Tryz.muLib ⟨b, 0, none⟩ w h.cells.1 (h.frozen 0)
  have F1 : Fr (foot b s) w w1 := by rw [← hw1]; exact fr_lock b s w _
  have HF : Hid (w.setCell ⟨b, 0, none⟩ (.int .i32 1) = w1 ∧ Rep B w1 b 1 s ∧ Fr (foot b s) w w1 ∧ s.ss[j]? = some x ∧ s.mv = .slice none 0 0) := ⟨hw1, R1, F1, hx, hmv⟩
  have HM := findMark_any B b 1 s g w1 R1 (by rw [hms]; simp)
  rw [hms, fi] at HM
  have HS : Hid (∀ W, Rep B W b 1 s → _) := fun W hW => findSnapshot_any B b 1 s g W hW (by omega)
  rw [hf] at HS
  have HT : Hid (∀ (a : Option Addr) (c : Nat) (f : Value) (W : World), Calls Tryz.prog 70 #[.slice a 1 c, f] W fun e w' => e = .returned (.tuple #[]) ∧ w' = W) := fun a c f W => sort_one a c f W
  obtain ⟨ao, cap, hsv⟩ := own_shape h.ss
  have ho := h.ss
  rw [hsv] at ho
  obtain ⟨gg, hgg, hcap, _⟩ := own_addr ho (by omega)
  subst hgg
  have HV : Hid (s.sv = .slice (some ⟨gg, 0, none⟩) s.ss.length cap) := hsv
  obtain ⟨n, hn⟩ : ∃ n, s.ss.length = n := ⟨_, rfl⟩
  have hjn : (j : Int) < (n : Int) := by omega
  have HN : Hid (s.ss.length = n) := hn
  obtain ⟨cm, hcm⟩ : ∃ cm, x.came = cm := ⟨_, rfl⟩
  have HCM : Hid (x.came = cm) := hcm
  rw [hcm] at HNt ⊢
  clear h R1 F1 hw1 hf hx ho hsv hcm hmv
  rw [hn] at hcap hj hl
  clear hn
  go_enter_defers Tryz.func42, Tryz.ntmps42
  go_wp2_with (first
    | (go_at_call 23; refine HL.mono ?_; rintro e w' ⟨rfl, hw'⟩; rw [HF.out.1] at hw'; have hw' := hw'.symm; subst hw')
    | (go_at_call 69; refine HM.mono ?_; rintro e w2 ⟨rfl, hfr⟩
       have HR2 : Hid (Rep B w2 b 1 s ∧ Fr (foot b s) w w2) := ⟨HF.out.2.1.kept0 hfr, HF.out.2.2.1.trans hfr (by simp)⟩
       clear hfr)
    | (go_at_call 65; refine (HS.out _ HR2.out.1).mono ?_; rintro e w3 ⟨rfl, hfr⟩
       have HR3 : Hid (Rep B w3 b 1 s ∧ Fr (foot b s) w w3) := ⟨HR2.out.1.kept0 hfr, HR2.out.2.trans hfr (by simp)⟩
       have c4 : w3.cell? ⟨b, 4, none⟩ = some (.slice (some ⟨gg, 0, none⟩) n cap) := by rw [← HN.out, ← HV.out]; exact HR3.out.1.cells.2.2.2.1
       have c6 : w3.cell? ⟨b, 6, none⟩ = some (.slice none 0 0) := by rw [← HF.out.2.2.2.2]; exact HR3.out.1.cells.2.2.2.2.2.1
       have d3 : w3.cell? ⟨gg, j * 4 + 3, none⟩ = some (.int .i64 cm) := by
         have h1 := HR3.out.1.ss
         rw [HV.out, HN.out] at h1
         obtain ⟨g', e', _, hc⟩ := own_addr h1 (by omega)
         have : g' = gg := by simpa using e'.symm
         subst this
         rw [hc _ (by omega)]
         have h2 := (snC_get s.ss j (by rw [HN.out]; exact hj)).2.2.2
         rw [h2]
         have h3 := HF.out.2.2.2.1
         rw [List.getElem?_eq_getElem (by rw [HN.out]; exact hj)] at h3
         simp at h3
         rw [h3, HCM.out]
       have f6 := HR3.out.1.frozen 6
       have lb := World.block_lt_of_cell? _ _ c6
       have lb' : b < w3.heap.size := lb
       have hBw : B ≤ w3.heap.size := by have := HR3.out.1.hb; omega
       clear hfr))
  have j0 : (0 : Int) ≤ (j : Int) := Int.natCast_nonneg _
  have j1 : ¬ ((n : Int) ≤ (j : Int)) := by omega
  refine wp_region_noPanic ?_
  go_region_law
    ((refine step_append_lies _ (by rfl) _ _ _ (by rfl) B 125 i0 _ 2 16 Tryz.underlying73 hi hz0 hz1 hz2 rfl (by omega) (.slice none 0 0) 0 [] (by rfl) (World.ownsRow_nil _ _ _ _) ⟨w3.heap.size, 0, none⟩ 1 1 [.int .i64 g, .int .i64 cm] (by rfl) (by rfl) (World.news_of_block (cs := #[.int .i64 g, .int .i64 cm]) (t := 125) (fr := (0, 0)) (heap_alloc_new w3 _)) (by simp [Value.oneCell']) (by omega) (by unfold maxLen; omega) (by omega) (by simp; omega) (w3.heap.size + 1) (by simp) ?_; intro mg cap1 w9 hown9 hgrow hat hlt9; have f9 : w9.frozen? ⟨b, 6, none⟩ = false := (hgrow.frozen_far ⟨b, 6, none⟩ (by simp; omega) (by simp [Value.ownBlock])).trans (froz_alloc lb' f6); have c9 : w9.cell? ⟨b, 6, none⟩ = some (.slice none 0 0) := (hgrow.cell_far ⟨b, 6, none⟩ (by simp; omega) (by simp [Value.ownBlock])).trans ((World.cell?_of_block (Below.heap_alloc w3 _ b lb')).trans c6)))
  all_goals
    refine NoPanic.normal ?_
    have HR9 : Hid (Rep B (w9.setCell ⟨b, 6, none⟩ (.slice (some ⟨mg, 0, none⟩) 1 cap1)) b 1 (s.mark1 g cm (.slice (some ⟨mg, 0, none⟩) 1 cap1)) ∧ Fr (foot b s) w (w9.setCell ⟨b, 6, none⟩ (.slice (some ⟨mg, 0, none⟩) 1 cap1)) ∧ w.heap.size ≤ mg) := by
      have R2 := HR3.out.1.kept0 ((Fr.refl _ _).alloc (.cells #[.int .i64 g, .int .i64 cm] 125)).drew
      refine ⟨R2.marked hown9 hgrow, Fr.setCell ((HR3.out.2.alloc _).drew.grown hgrow (fun k hk => by simp [Value.ownBlock] at hk)) _ (Or.inl (by simp [foot])), ?_⟩
      rcases hat with h | h
      · simp [Value.ownBlock] at h
      · have := HR3.out.2.size
        omega
    obtain ⟨W9, hW9⟩ : ∃ W9, w9.setCell ⟨b, 6, none⟩ (.slice (some ⟨mg, 0, none⟩) 1 cap1) = W9 := ⟨_, rfl⟩
    rw [hW9] at HR9
    rw [hW9]
    have c6' : W9.cell? ⟨b, 6, none⟩ = some (.slice (some ⟨mg, 0, none⟩) 1 cap1) := HR9.out.1.cells.2.2.2.2.2.1
    clear hown9 hgrow hat hlt9 f9 c9 hW9 c4 c6 d3 f6
    obtain ⟨mv, hmv⟩ : ∃ mv, Value.slice (some ⟨mg, 0, none⟩) 1 cap1 = mv := ⟨_, rfl⟩
    have HMV : Hid (∀ k, mv.ownBlock = some k → w.heap.size ≤ k) := fun k hk => by
      rw [← hmv] at hk
      have : mg = k := by simpa [Value.ownBlock] using hk
      subst this
      exact HR9.out.2.2
    have HR9' : Hid (Rep B W9 b 1 (s.mark1 g cm mv) ∧ Fr (foot b s) w W9) := by
      rw [← hmv]
      exact ⟨HR9.out.1, HR9.out.2.1⟩
    clear hmv HR9
    go_wp2_with (first
      | (go_at_call 70; refine (HT.out _ _ _ _).mono ?_; rintro e w' ⟨rfl, hw'⟩; have hw' := hw'.symm; subst hw')
      | (go_at_call 22; refine (HU.out _).mono ?_; rintro e w5 ⟨rfl, f5⟩; have HR5 : Hid (Rep B w5 b 1 (s.mark1 g cm mv) ∧ Fr (foot b s) w w5) := ⟨HR9'.out.1.kept0 f5, HR9'.out.2.trans f5 (by simp)⟩; clear f5)
      | (go_at_call 21; refine (HNt.out _ mv HR5.out.1).mono ?_; rintro e w6 ⟨rfl, lv, r6, f6, a6⟩; have HR6 : Hid (Rep B w6 b 1 ((s.mark1 g cm mv).noted 77 ba lv) ∧ Fr (foot b s) w w6 ∧ (∀ k, lv.ownBlock = some k → s.lv.ownBlock = some k ∨ w.heap.size ≤ k)) := ⟨r6, HR5.out.2.trans f6 (mark_foot HMV.out HF.out.2.2.2.2), fun k hk => (a6 k hk).imp_right (fun h => Nat.le_trans HR5.out.2.size h)⟩; clear r6 f6 a6))
    refine leaves_cons (f := 24) (args := #[.pointer (some ⟨b, 0, none⟩)]) (by simp) (by simp [go_sem]) ?_
    refine (unlock_deferred Tryz.muLib ⟨b, 0, none⟩ .returning _ HR6.out.1.cells.1 (HR6.out.1.frozen 0)).mono ?_
    rintro e u' w'' ⟨rfl, rfl, rfl⟩
    exact ⟨_, results_tmp rfl _ _ _, rfl, mv, lv, HR6.out.1.lock 0, HR6.out.2.1.setCell _ (Or.inl (by simp [foot])), HMV.out, HR6.out.2.2⟩
end Go.Proofs.YthdhegmlknpllaaGreat
