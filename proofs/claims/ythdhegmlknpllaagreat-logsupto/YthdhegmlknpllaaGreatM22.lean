import Derived.Test.YthdhegmlknpllaaGreatM17
namespace Go.Proofs.YthdhegmlknpllaaGreat
open Go.RowKit Go.Maps Go.MuLone
attribute [-go_sem] Instr.build Instr.buildSlice Instr.loadAt
set_option maxRecDepth 100000 in
set_option maxHeartbeats 3200000 in
theorem rsnap_ok (B b : Nat) (s : RSto) (n t : Int) (w : World) (h : RRep B w b s) (ht : 0 ≤ t ∧ t ≤ 1073741824) (h1 : 1 ≤ s.id ∧ s.id ≤ 999) (h2 : 0 ≤ s.last ∧ n ≤ 999999) (hf : RNxt s n) (hs : s.sh.length < 12) (hm : s.ms.length ≤ 12) (hnw : 0 ≤ s.now ∧ s.now ≤ 1000000000000) :
  Calls Tryz.prog 30 #[.pointer (some ⟨b, 0, none⟩), .int .i64 t] w fun e w' => e = .returned (.tuple #[.int .i64 (1000000 * s.id + n), .int .i64 0]) ∧ ∃ sv, RRep B w' b (s.snap n t sv) ∧ Fr (rfoot b s) w w' ∧ (∀ k, sv.ownBlock = some k → s.sv.ownBlock = some k ∨ w.heap.size ≤ k) := by
 obtain ⟨i0, hi0⟩ : ∃ i0, Tryz.prog.info? 117 = some i0 := by
  cases hq : Tryz.prog.info? 117 with
  | none => have := info108; rw [hq] at this; cases this
  | some i => exact ⟨i, rfl⟩
 have hi1 : i0.size = 36 ∧ i0.bytes = 416 := by have := info108; rw [hi0] at this; simpa using this
 obtain ⟨z0, hz0, hzs⟩ : ∃ z, i0.zero = some z ∧ z.cells.size = 36 := by
  have := info108z
  rw [hi0] at this
  simpa using this
 obtain ⟨c0, c1, c2, c3, c36, c37⟩ := h.cells
 have hlo := hf.lo
 have hhi := hf.hi
 have HH : Hid (∀ k, Calls Tryz.prog 64 #[.pointer (some ⟨b, 0, none⟩), .int .i64 (1000000 * s.id + k)] w fun e w' => e = .returned (.bool (RHs s (1000000 * s.id + k))) ∧ w' = w) := fun k => rhas_any B b s (1000000 * s.id + k) w h (by omega) (by omega)
 have HNX : Hid (RNxt s n) := hf
 have Ra : RRep B (w.setCell ⟨b, 2, none⟩ (.int .i64 (s.now + 1))) b { s with now := s.now + 1 } := h.put 2 _ (cset_now s _) h.d16 h.b16 rfl rfl rfl rfl
 have R1 : RRep B ((w.setCell ⟨b, 2, none⟩ (.int .i64 (s.now + 1))).setCell ⟨b, 3, none⟩ (.int .i64 n)) b { s with now := s.now + 1, last := n } := Ra.put 3 _ (cset_last { s with now := s.now + 1 } _) h.d16 h.b16 rfl rfl rfl rfl
 have F1 : Fr (rfoot b s) w ((w.setCell ⟨b, 2, none⟩ (.int .i64 (s.now + 1))).setCell ⟨b, 3, none⟩ (.int .i64 n)) := ((Fr.refl _ _).setCell _ (Or.inl (by simp [rfoot]))).setCell _ (Or.inl (by simp [rfoot]))
 obtain ⟨wa, hwa⟩ : ∃ wa, w.setCell ⟨b, 2, none⟩ (.int .i64 (s.now + 1)) = wa := ⟨_, rfl⟩
 obtain ⟨w1, hw1⟩ : ∃ w1, wa.setCell ⟨b, 3, none⟩ (.int .i64 n) = w1 := ⟨_, rfl⟩
 rw [hwa] at Ra R1 F1
 rw [hw1] at R1 F1
 have hz : w1.heap.size = w.heap.size := by rw [← hw1, ← hwa]; simp
 have ca3 := Ra.cells.2.2.2.1
 have f2 := h.frozen 2
 have f3 := Ra.frozen 3
 have f36 := R1.frozen 36
 obtain ⟨e0, e1, e2, e3, e36, e37⟩ := R1.cells
 have hcl : (datC s.dat ++ bornC s.born).length = 32 := by simp [datC, bornC, h.d16, h.b16]
 have hld0 := run_loadAt_mid (P := Tryz.prog) w1.drew b 4 82 _ _ (fun j v hv => R1.range j v hv) Tryz.underlying82 rfl (by rw [hcl]; exact size79)
 have hbd0 : ∀ W, _ := fun W => run_build108 (1000000 * s.id + n) t (s.now + 1) W _ hcl
 obtain ⟨X, hX⟩ : ∃ X, (Value.int .i64 (1000000 * s.id + n) :: .int .i64 t :: .int .i64 0 :: .int .i64 (s.now + 1) :: (datC s.dat ++ bornC s.born)) = X := ⟨_, rfl⟩
 have hXl : X.length = 36 := by rw [← hX]; simp only [List.length_cons, hcl]
 have hbs0 : ∀ W, _ := fun W => run_bslice80 W X hXl
 rw [hX] at hbd0
 have hX1 : ∀ u ∈ X, u.oneCell' = true := by
  rw [← hX]
  intro u hu
  simp only [List.mem_cons, List.mem_append, datC, bornC, List.mem_map] at hu
  rcases hu with rfl | rfl | rfl | rfl | ⟨_, _, rfl⟩ | ⟨_, _, rfl⟩ <;> rfl
 obtain ⟨V, hV⟩ : ∃ V, Value.agg (datC s.dat ++ bornC s.born).toArray = V := ⟨_, rfl⟩
 obtain ⟨U, hU⟩ : ∃ U, Value.agg X.toArray = U := ⟨_, rfl⟩
 have hld : (Instr.loadAt 82 (.pointer (some ⟨b, 4, none⟩))).run Tryz.prog w1.drew = .ok V w1.drew := by rw [← hV]; exact hld0
 have hbd : ∀ W, (Instr.build 117 #[(0, .int .i64 (1000000 * s.id + n)), (1, .int .i64 t), (3, .int .i64 (s.now + 1)), (4, V)]).run Tryz.prog W = .ok U W := by rw [← hV, ← hU]; exact hbd0
 have hbs : ∀ W, (Instr.buildSlice 83 1 #[(0, U)]).run Tryz.prog W = .ok (.slice (some ⟨W.heap.size, 0, none⟩) 1 1) (W.alloc (.cells X.toArray 117)) := by rw [← hU]; exact hbs0
 clear hld0 hbd0 hbs0 hV hU
 obtain ⟨ao, cap, hsv⟩ := own_shape h.sh
 have HR1 : Hid (RRep B w1 b { s with now := s.now + 1, last := n } ∧ Fr (rfoot b s) w w1 ∧ w1.heap.size = w.heap.size ∧ s.sv = .slice ao s.sh.length cap ∧ (Value.int .i64 (1000000 * s.id + n) :: .int .i64 t :: .int .i64 0 :: .int .i64 (s.now + 1) :: (datC s.dat ++ bornC s.born)) = X ∧ s.dat.length = 16 ∧ s.born.length = 16) := ⟨R1, F1, hz, hsv, hX, h.d16, h.b16⟩
 have HO : Hid (w1.ownsRow B 117 36 (.slice ao s.sh.length cap) s.sh.length (rshC s.sh)) := by rw [← hsv]; exact R1.sh
 have hne : (Value.slice ao s.sh.length cap).ownBlock ≠ some b := fun e => (h.apart.1 b (by rw [hsv]; exact e)).1 rfl
 have hBw : B ≤ w1.heap.size := by have := R1.hb; have := (R1.lt b (by simp [rfoot])).2; omega
 have lb' : b < w1.heap.size := (R1.lt b (by simp [rfoot])).2
 simp only [hsv] at c36 e36
 have p1 : IntKind.i64.wrap (s.last + 1) = s.last + 1 := wrap_fit ⟨by omega, by omega⟩
 have p2 : IntKind.i64.wrap (1000000 * s.id) = 1000000 * s.id := wrap_fit ⟨by omega, by omega⟩
 have p3 : IntKind.i64.wrap (1000000 * s.id + n) = 1000000 * s.id + n := wrap_fit ⟨by omega, by omega⟩
 have p4 : IntKind.i64.wrap (s.now + 1) = s.now + 1 := wrap_fit ⟨by omega, by omega⟩
 have t1 : decide (t < 0) = false := by simp; omega
 have t2 : decide (t > 1073741824) = false := by simp; omega
 have t3 : ¬ ((12 : Int) ≤ (s.sh.length : Int)) := by omega
 have t4 : decide (n > 999999) = false := by simp; omega
 clear h Ra R1 F1 hf hsv c1 c37 e1 e37 hz hX hcl
 have l3 := la3
 have l80 := la80
 go_enter Tryz.func30, Tryz.ntmps30
 go_wp2
 go_loopw [6] (fun i wr => wr = w ∧ ∃ k : Int, (s.last < k ∧ k ≤ n) ∧ i = .int .i64 k) (fun i _ => (n - intOf i).toNat)
 case atStart => exact ⟨rfl, s.last + 1, ⟨by omega, by omega⟩, rfl⟩
 case round =>
  obtain ⟨rfl, k, ⟨hk1, hk2⟩, rfl⟩ := hrel
  have q3 : IntKind.i64.wrap (1000000 * s.id + k) = 1000000 * s.id + k := wrap_fit ⟨by omega, by omega⟩
  have q1 : IntKind.i64.wrap (k + 1) = k + 1 := wrap_fit ⟨by omega, by omega⟩
  by_cases hkn : k < n
  · have hb := HNX.out.no k hk1 hkn
    have HHk : Hid (Calls Tryz.prog 64 #[.pointer (some ⟨b, 0, none⟩), .int .i64 (1000000 * s.id + k)] wr fun e w' => e = .returned (.bool true) ∧ w' = wr) := by rw [← hb]; exact HH.out k
    clear hb HH
    go_wp2_with (first
     | (go_at_call 64; refine HHk.out.mono ?_; rintro e w' ⟨rfl, hw'⟩; have hw' := hw'.symm; subst hw'))
    go_roundw
    case rel => exact ⟨by first | rfl | trivial, k + 1, ⟨by omega, by omega⟩, rfl⟩
    case measure => simp [intOf]; omega
  · have hkn' : k = n := by omega
    subst hkn'
    have hb := HNX.out.yes
    have HHk : Hid (Calls Tryz.prog 64 #[.pointer (some ⟨b, 0, none⟩), .int .i64 (1000000 * s.id + k)] wr fun e w' => e = .returned (.bool false) ∧ w' = wr) := by rw [← hb]; exact HH.out k
    clear hb HH HNX
    go_wp2_with (first
     | (go_at_call 64; refine HHk.out.mono ?_; rintro e w' ⟨rfl, hw'⟩; have hw' := hw'.symm; subst hw'))
    go_region_law
     ((refine step_append_lies _ (by rfl) _ _ _ (by rfl) B 117 i0 _ 36 416 Tryz.underlying83 hi0 hz0 hi1.1 hi1.2 hzs (by omega) (.slice ao s.sh.length cap) s.sh.length (rshC s.sh) (by rfl) ((HO.out.alloc _).drew) ⟨w1.heap.size, 0, none⟩ 1 1 X (by rfl) (by rw [hXl]) (World.news_of_block (cs := X.toArray) (t := 117) (fr := (0, 0)) (heap_alloc_new w1 _)) hX1 (by omega) (by unfold maxLen; omega) (by omega) (by simp; omega) (w1.heap.size + 1) (by simp) ?_; intro gg cap1 w9 hown9 hgrow hat hlt9; have f9 : w9.frozen? ⟨b, 36, none⟩ = false := (hgrow.frozen_far ⟨b, 36, none⟩ (by simp; omega) (Ne.symm hne)).trans (froz_alloc lb' f36); have c9 : w9.cell? ⟨b, 36, none⟩ = some (.slice ao s.sh.length cap) := (hgrow.cell_far ⟨b, 36, none⟩ (by simp; omega) (Ne.symm hne)).trans ((World.cell?_of_block (Below.heap_alloc w1 _ b lb')).trans e36); have c90 : w9.cell? ⟨b, 0, none⟩ = some (.int .i64 s.id) := (hgrow.cell_far ⟨b, 0, none⟩ (by simp; omega) (Ne.symm hne)).trans ((World.cell?_of_block (Below.heap_alloc w1 _ b lb')).trans e0)))
    all_goals (go_wp2; go_ret2; exact ⟨rfl, rsnap_end HR1.out.1 HR1.out.2.1 HR1.out.2.2.1 HR1.out.2.2.2.1 HR1.out.2.2.2.2.1 HR1.out.2.2.2.2.2.1 HR1.out.2.2.2.2.2.2 hown9 hgrow hat⟩)
end Go.Proofs.YthdhegmlknpllaaGreat
