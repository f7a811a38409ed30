import Derived.Test.YthdhegmlknpllabGreatDoorM48
/-
  The walk of tetherkeep's right (12).
-/
namespace Go.Proofs.YthdhegmlknpllabGreatDoor
open Go.RowKit Go.Maps Go.MuLone

section
variable {w0 W W' : World} {N : NC} {x : PS} {rv wv iv : Value} {vs : List Value}
theorem nq_image (h : NQ w0 N x rv wv iv vs W W') {g : Int} (hg : Gv x.im.length g) (hq : x.q ≤ 700000) : Calls Tryz.prog 28 #[.pointer (some ⟨N.nb, 0, none⟩), .int .i64 g] W' fun e w' => ∃ v base, e = .returned (.tuple #[.agg #[.int .i64 g, .int .i64 (tI x.im g), v], .bool true]) ∧ w'.ownsRow base 9 1 v N.n (b4S (imOf x.im g).blk) ∧ NQ w0 N x rv wv iv vs W w' := by
  refine (image_any w0 N x W' h.2.1 g hg hq).mono ?_
  rintro e w' ⟨v, base, rfl, o, f⟩
  exact ⟨v, base, rfl, o, h.same f⟩
theorem b4S_th {R : Sto} {n : Nat} {im : List Img} {g : Int} (hl : (imOf im g).blk.length = n) (h : ∀ j : Nat, j < n → (R.th g j).x = bI im g j) : b4S (imOf im g).blk = strs ((List.range n).map fun j : Nat => R.th g (j : Int)) := by
  apply List.ext_getElem?
  intro j
  unfold b4S strs
  rw [List.getElem?_map, List.getElem?_map, List.getElem?_map]
  by_cases hj : j < n
  · rw [List.getElem?_range hj, List.getElem?_eq_getElem (by omega : j < (imOf im g).blk.length)]
    have e := h j hj
    unfold bI at e
    rw [List.getD_eq_getElem?_getD, List.getElem?_eq_getElem (by omega : j < (imOf im g).blk.length)] at e
    simp at e ⊢
    rw [e]
  · rw [List.getElem?_eq_none (by omega), List.getElem?_eq_none (by simp; omega)]
    rfl
theorem nq_is (h : NQ w0 N x rv wv iv vs W W') {i : Nat} {r : RCfg} {R : Sto} (hr : N.rcs[i]? = some r) (hR : x.Rs[i]? = some R) {y : Sn} (hy : y ∈ R.ss) {v : Value} {base : Nat} (ho : W'.ownsRow base 9 1 v N.n (b4S (imOf x.im y.guid).blk)) (t : Int) : Calls Tryz.prog 29 #[.agg #[.int .i64 y.guid, .int .i64 t, v], .pointer (some ⟨r.b, 0, none⟩)] W' fun e w' => e = .returned (.bool true) ∧ NQ w0 N x rv wv iv vs W w' := by
  have hm : R ∈ x.Rs := List.mem_of_getElem? hR
  have ok := h.2.1.I.re R hm
  obtain ⟨h1, h2, h3⟩ := ok.ri y hy
  have hb : (imOf x.im y.guid).blk.length = N.n := by
    refine (h.2.1.I.src.ib _ ?_).1
    unfold imOf
    have := h1.1
    have := h1.2
    rw [List.getD_eq_getElem?_getD, List.getElem?_eq_getElem (by omega)]
    exact List.getElem_mem _
  have hgs := ok.rp.gs y hy
  have hn := h.2.1.I.n1
  rw [b4S_th hb h3] at ho
  have rp := (h.1.rm i r R hr hR).rk.rep
  refine (is_any r.B r.b R y.guid t v base W' rp (by have := ok.rp.len; omega) ⟨by omega, by omega⟩ ⟨y, hy, by simp⟩ (by rw [ok.rp.vol]; omega) (by rw [ok.rp.vol]; exact ho) (own_foot rp ho (by decide))).mono ?_
  rintro e w' ⟨rfl, r2, f⟩
  exact ⟨rfl, h.replica hr hR r2 f⟩
end

set_option maxRecDepth 100000 in
set_option maxHeartbeats 1600000 in
theorem right_any (w0 : World) (N : NC) (x : PS) (w : World) (h : Net w0 w N x) (hq : x.q ≤ 700000) :
    Calls Tryz.prog 12 #[.pointer (some ⟨N.nb, 0, none⟩)] w fun e w' => e = .returned (.bool true) ∧ Net w0 w' N x := by
  obtain ⟨rv, wv, iv, vs, M⟩ := h.m
  obtain ⟨ra, rc, hrv⟩ := own_shape M.ro
  subst hrv
  obtain ⟨m, hm⟩ : ∃ m, N.rcs.length = m := ⟨_, rfl⟩
  have HM : Hid (N.rcs.length = m) := hm
  have H0 : Hid (NQ w0 N x (.slice ra N.rcs.length rc) wv iv vs w w) := NQ.start h M
  have hm3 : m ≤ 3 := by have h1 := M.rl; have h2 := h.I.rl; have h3 := h.I.pl; omega
  clear h M hm
  go_enter Tryz.func12, Tryz.ntmps12
  go_wp2
  go_loopw [3] (fun i wr => ∃ j : Nat, j ≤ m ∧ i = .int .i64 j ∧ Hid (NQ w0 N x (.slice ra N.rcs.length rc) wv iv vs w wr)) (fun i _ => m - (intOf i).toNat)
  case atStart => exact ⟨0, Nat.zero_le _, rfl, H0⟩
  case round =>
    obtain ⟨j, hj, rfl, HJ⟩ := hrel
    obtain ⟨W3, hW3⟩ : ∃ W3, W3 = wr := ⟨_, rfl⟩
    subst hW3
    obtain ⟨x0, x1, x2, x3, x4, z3, z4⟩ := HJ.out.1.cells
    rw [HM.out] at x1
    clear x2 x3 x4 z3 z4
    by_cases hlt : j < m
    · have hltz : (j : Int) < (m : Int) := by omega
      have j0 : (0 : Int) ≤ (j : Int) := by omega
      obtain ⟨r, R, p, hr, hR, hp⟩ := HJ.out.2.1.at (i := j) (by rw [HM.out]; exact hlt)
      obtain ⟨rg, hrg, _, _⟩ := own_addr HJ.out.1.ro (by have := HM.out; omega)
      subst hrg
      have xr : W3.cell? ⟨rg, j, none⟩ = some (.pointer (some ⟨r.kb, 0, none⟩)) := by
        have M3 := HJ.out.1
        rw [HM.out] at M3
        exact ro_cell M3 HM.out hr
      obtain ⟨kr, hkr⟩ : ∃ kr, R.ss.length = kr := ⟨_, rfl⟩
      have kr12 : kr ≤ 12 := by have := (HJ.out.2.1.I.re R (List.mem_of_getElem? hR)).rp.len; omega
      have HKR : Hid (R.ss.length = kr) := hkr
      have HR : Hid (N.rcs[j]? = some r ∧ x.Rs[j]? = some R) := ⟨hr, hR⟩
      obtain ⟨rb, hrb⟩ : ∃ rb, r.b = rb := ⟨_, rfl⟩
      have HRb : Hid (r.b = rb) := hrb
      clear hkr hr hR hp hrb
      go_wp2_with (first
        | (go_at_call 20; refine (nq_rstore (W' := W3) HJ.out HR.out.1 HR.out.2).mono ?_; rintro e w' ⟨rfl, hw'⟩; rw [HRb.out]; have hw'' := hw'.symm; subst hw'')
        | (go_at_call 14; rw [← HRb.out]; refine (nq_rsnaps (W' := W3) HJ.out HR.out.1 HR.out.2).mono ?_; rintro e w4 ⟨g4, rfl, b4, q4⟩; rw [HKR.out, HRb.out]; have HB4 : Hid (w4.heap[g4]? = some (.cells (tlC (R.ss.map t3)).toArray 55 (0, 0))) := b4; have H4 : Hid (NQ w0 N x (.slice (some ⟨rg, 0, none⟩) N.rcs.length rc) wv iv vs w w4) := q4; clear q4 b4))
      go_loopw [6] (fun i wr => ∃ l : Nat, l ≤ kr ∧ i = .int .i64 l ∧ Hid (NQ w0 N x (.slice (some ⟨rg, 0, none⟩) N.rcs.length rc) wv iv vs w wr ∧ wr.heap[g4]? = some (.cells (tlC (R.ss.map t3)).toArray 55 (0, 0)))) (fun i _ => kr - (intOf i).toNat)
      case atStart => exact ⟨0, Nat.zero_le _, rfl, H4.out, HB4.out⟩
      case round =>
        obtain ⟨l, hl, rfl, HL⟩ := hrel
        obtain ⟨W5, hW5⟩ : ∃ W5, W5 = wr := ⟨_, rfl⟩
        subst hW5
        clear x0 x1 xr
        by_cases hlt2 : l < kr
        · have hltz2 : (l : Int) < (kr : Int) := by omega
          have l0 : (0 : Int) ≤ (l : Int) := by omega
          have hlR : l < R.ss.length := by rw [HKR.out]; exact hlt2
          obtain ⟨y, hy⟩ : ∃ y, R.ss[l] = y := ⟨_, rfl⟩
          have hym : y ∈ R.ss := by rw [← hy]; exact List.getElem_mem _
          obtain ⟨yg, yt, yh⟩ := tlC_get (R.ss.map t3) l (by rw [List.length_map]; exact hlR)
          rw [List.getElem_map, hy] at yg yt
          have d0 : W5.cell? ⟨g4, l * 3, none⟩ = some (.int .i64 y.guid) := by rw [cell_of HL.out.2, List.getElem?_toArray]; exact yg
          obtain ⟨h1, h2, h3⟩ := (HL.out.1.2.1.I.re R (List.mem_of_getElem? HR.out.2)).ri y hym
          obtain ⟨gy, hgy⟩ : ∃ gy, y.guid = gy := ⟨_, rfl⟩
          obtain ⟨ty, hty⟩ : ∃ ty, y.time = ty := ⟨_, rfl⟩
          have HY : Hid (y ∈ R.ss ∧ Gv x.im.length gy ∧ tI x.im gy = ty ∧ y.guid = gy ∧ (tlC (R.ss.map t3))[l * 3 + 1]? = some (.int .i64 ty)) := ⟨hym, by rw [← hgy]; exact h1, by rw [← hgy, ← hty]; exact h2.symm, hgy, by rw [← hty]; exact yt⟩
          rw [hgy] at d0
          clear yh hy hym yg yt h1 h2 h3 hgy hty hlR
          go_wp2_with (first
            | (go_at_call 28; refine (nq_image (W' := W5) (NQ.start HL.out.1.2.1 HL.out.1.1) HY.out.2.1 hq).mono ?_; rintro e w6 ⟨v, base, rfl, o6, q6⟩; rw [HY.out.2.2.1]; have H6 : Hid (NQ w0 N x (.slice (some ⟨rg, 0, none⟩) N.rcs.length rc) wv iv vs w w6 ∧ w6.ownsRow base 9 1 v N.n (b4S (imOf x.im gy).blk) ∧ w6.heap[g4]? = some (.cells (tlC (R.ss.map t3)).toArray 55 (0, 0))) := ⟨HL.out.1.trans q6, o6, q6.2.2.2 g4 _ 55 (Or.inl rfl) HL.out.2⟩; have d6 : w6.cell? ⟨g4, l * 3 + 1, none⟩ = some (.int .i64 ty) := (by rw [cell_of H6.out.2.2, List.getElem?_toArray]; exact HY.out.2.2.2.2); obtain ⟨va, vc, hv⟩ := own_shape o6; subst hv; clear o6 q6))
          have H7 : Hid (NQ w0 N x (.slice (some ⟨rg, 0, none⟩) N.rcs.length rc) wv iv vs w (w6.alloc (.cells #[.int .i64 gy, .int .i64 ty, .slice va N.n vc] 60)) ∧ (w6.alloc (.cells #[.int .i64 gy, .int .i64 ty, .slice va N.n vc] 60)).ownsRow base 9 1 (.slice va N.n vc) N.n (b4S (imOf x.im gy).blk) ∧ (w6.alloc (.cells #[.int .i64 gy, .int .i64 ty, .slice va N.n vc] 60)).heap[g4]? = some (.cells (tlC (R.ss.map t3)).toArray 55 (0, 0))) := ⟨H6.out.1.same ((Fr.refl _ _).alloc _), own_fr' H6.out.2.1 ((Fr.refl _ _).alloc _), ((NQ.start H6.out.1.2.1 H6.out.1.1).same ((Fr.refl _ _).alloc _)).2.2.2 g4 _ 55 (Or.inl rfl) H6.out.2.2⟩
          have n7 := heap_alloc_new w6 (.cells #[.int .i64 gy, .int .i64 ty, .slice va N.n vc] 60)
          obtain ⟨W7, hW7⟩ : ∃ W7, w6.alloc (.cells #[.int .i64 gy, .int .i64 ty, .slice va N.n vc] 60) = W7 := ⟨_, rfl⟩
          obtain ⟨mb, hmb⟩ : ∃ mb, w6.heap.size = mb := ⟨_, rfl⟩
          rw [hW7] at H7 n7 ⊢
          rw [hmb] at n7 ⊢
          have e7 : W7.cell? ⟨g4, l * 3 + 1, none⟩ = some (.int .i64 ty) := by rw [cell_of H7.out.2.2, List.getElem?_toArray]; exact HY.out.2.2.2.2
          have m0 : W7.cell? ⟨mb, 0, none⟩ = some (.int .i64 gy) := by rw [cell_of n7]; rfl
          have m1 : W7.cell? ⟨mb, 1, none⟩ = some (.int .i64 ty) := by rw [cell_of n7]; rfl
          have m2 : W7.cell? ⟨mb, 2, none⟩ = some (.slice va N.n vc) := by rw [cell_of n7]; rfl
          have HI : Hid (∀ W, Fr [] W7 W → Calls Tryz.prog 29 #[.agg #[.int .i64 gy, .int .i64 ty, .slice va N.n vc], .pointer (some ⟨rb, 0, none⟩)] W fun e w' => e = .returned (.bool true) ∧ NQ w0 N x (.slice (some ⟨rg, 0, none⟩) N.rcs.length rc) wv iv vs w w' ∧ w'.heap[g4]? = some (.cells (tlC (R.ss.map t3)).toArray 55 (0, 0))) := fun W hW => by
            have q := (NQ.start H7.out.1.2.1 H7.out.1.1).same hW
            have h8 := nq_is q HR.out.1 HR.out.2 HY.out.1 (by rw [HY.out.2.2.2.1]; exact own_fr' H7.out.2.1 hW) ty
            rw [HY.out.2.2.2.1, HRb.out] at h8
            refine h8.mono ?_
            rintro e w' ⟨rfl, q8⟩
            exact ⟨rfl, H7.out.1.trans q8, q8.2.2.2 g4 _ 55 (Or.inl rfl) H7.out.2.2⟩
          clear hW7 hmb n7 H6 H7 d6 d0 HL
          first
            | go_region_with (first | (go_at_call 29; refine (HI.out _ (by first | exact Fr.refl _ _ | exact (Fr.refl _ _).drew | exact (Fr.refl _ _).drewN _)).mono ?_; rintro e w8 ⟨rfl, q8⟩; have H8 : Hid (NQ w0 N x (.slice (some ⟨rg, 0, none⟩) N.rcs.length rc) wv iv vs w w8 ∧ w8.heap[g4]? = some (.cells (tlC (R.ss.map t3)).toArray 55 (0, 0))) := q8; clear q8))
            | fail
          all_goals
            go_wp2
            go_roundw
            case rel => exact ⟨l + 1, by omega, by go_num, H8⟩
            case measure => simp [intOf]; omega
        · have hll : l = kr := by omega
          subst hll
          go_wp2
          go_roundw
          case rel => exact ⟨j + 1, by omega, by go_num, HL.out.1⟩
          case measure => simp [intOf]; omega
    · have hjj : j = m := by omega
      subst hjj
      go_wp2
      go_ret
      exact ⟨rfl, HJ.out.2.1⟩
end Go.Proofs.YthdhegmlknpllabGreatDoor
