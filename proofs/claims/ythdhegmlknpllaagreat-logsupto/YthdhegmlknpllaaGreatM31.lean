import Derived.Test.YthdhegmlknpllaaGreatM30
import Derived.Test.YthdhegmlknpllaaGreatM29
namespace Go.Proofs.YthdhegmlknpllaaGreat
open Go.RowKit Go.Maps Go.MuLone
attribute [-go_sem] Instr.loadAt Instr.storeAt
theorem size143 : (Tryz.prog.info? 143).map (·.size) = some 6 := by kernel_rfl
theorem st143 (W : World) (z : Array Value) (f t m n : Int) (p1 : Option Addr) (n1 c1 : Nat) (p2 : Option Addr) (n2 c2 : Nat) (hz : z.size = 6) : (Instr.storeAt 143 (.pointer (some ⟨W.heap.size, 0, none⟩)) (.agg #[.int .i64 f, .int .i64 t, .int .i64 m, .int .i64 n, .slice p1 n1 c1, .slice p2 n2 c2])).run Tryz.prog (W.alloc (.cells z 143)) = .ok () (W.alloc (.cells #[.int .i64 f, .int .i64 t, .int .i64 m, .int .i64 n, .slice p1 n1 c1, .slice p2 n2 c2] 143)) :=
 run_storeAt_new W 143 z _ size143 (by rw [hz]; rfl) (by simp [Value.oneCell'])
set_option maxRecDepth 100000 in
set_option maxHeartbeats 3200000 in
theorem rrecv_form (b : Nat) (tx : ByteArray) (w : World) (hp : ∀ W, Calls Tryz.prog 81 #[.string tx] W fun e w' => (∃ x, e = .returned (.tuple #[.agg x, .bool false]) ∧ SixV x) ∧ Fr [] W w') :
  Calls Tryz.prog 53 #[.pointer (some ⟨b, 0, none⟩), .string tx] w fun e w' => e = .returned (.tuple #[.int .i64 0, .int .i64 2]) ∧ Fr [] w w' := by
 have H81 : Hid (∀ W, Calls Tryz.prog 81 #[.string tx] W fun e w' => (∃ x, e = .returned (.tuple #[.agg x, .bool false]) ∧ SixV x) ∧ Fr [] W w') := hp
 have hst := st143
 clear hp
 go_enter Tryz.func53, Tryz.ntmps53
 go_wp2_with (first
  | (go_at_call 81; refine (H81.out _).mono ?_; rintro e w5 ⟨⟨x, rfl, a1, a2, a3, a4, p1, n1, c1, p2, n2, c2, rfl⟩, f5⟩; have H5 : Hid (Fr [] w w5) := f5; clear f5))
 go_ret2
 exact ⟨rfl, H5.out.alloc _⟩
set_option maxRecDepth 100000 in
set_option maxHeartbeats 3200000 in
theorem rrecv_base (B b : Nat) (s : RSto) (tx : ByteArray) (w : World) (h : RRep B w b s) (f t m : Int) (nb ln : Nat) (l : List (Int × B4)) (hp : ∀ W, Calls Tryz.prog 81 #[.string tx] W fun e w' => ∃ vN vD, e = .returned (.tuple #[.agg #[.int .i64 f, .int .i64 t, .int .i64 m, .int .i64 (nb : Int), vN, vD], .bool true]) ∧ w'.ownsRow W.heap.size 3 1 vN ln (l.map fun x => Value.int .i64 x.1) ∧ w'.ownsRow W.heap.size 9 1 vD ln (l.map fun x => Value.string x.2.ba) ∧ Fr [] W w') (hnb : (nb : Int) ≠ s.blocks) :
  Calls Tryz.prog 53 #[.pointer (some ⟨b, 0, none⟩), .string tx] w fun e w' => e = .returned (.tuple #[.int .i64 0, .int .i64 6]) ∧ Fr [] w w' := by
 have H81 : Hid (∀ W, Calls Tryz.prog 81 #[.string tx] W fun e w' => ∃ vN vD, e = .returned (.tuple #[.agg #[.int .i64 f, .int .i64 t, .int .i64 m, .int .i64 (nb : Int), vN, vD], .bool true]) ∧ w'.ownsRow W.heap.size 3 1 vN ln (l.map fun x => Value.int .i64 x.1) ∧ w'.ownsRow W.heap.size 9 1 vD ln (l.map fun x => Value.string x.2.ba) ∧ Fr [] W w') := hp
 have HR : Hid (RRep B w b s) := h
 obtain ⟨ao, cap, hsv⟩ := own_shape h.sh
 obtain ⟨sn, hsn⟩ : ∃ sn, s.sh.length = sn := ⟨_, rfl⟩
 rw [hsn] at hsv
 obtain ⟨sb, hsb⟩ : ∃ sb, s.blocks = sb := ⟨_, rfl⟩
 have HSV : Hid (s.sv = .slice ao sn cap) := hsv
 have HNB : Hid (s.blocks = sb) := hsb
 have hst := st143
 have l3 := la3
 have l83 := la80
 have hb2 : ((nb : Int) != (sb : Int)) = true := by rw [← hsb]; simpa using hnb
 clear hnb
 clear h hp hsv
 go_enter Tryz.func53, Tryz.ntmps53
 go_wp2_with (first
  | (go_at_call 81; refine (H81.out _).mono ?_; rintro e w5 ⟨vN, vD, rfl, hN5, hD5, f5⟩
     obtain ⟨na, nc, hvN⟩ := own_shape hN5
     obtain ⟨da, dc, hvD⟩ := own_shape hD5
     subst hvN
     subst hvD
     have HR6 : Hid (RRep B (w5.alloc (.cells #[.int .i64 f, .int .i64 t, .int .i64 m, .int .i64 (nb : Int), .slice na ln nc, .slice da ln dc] 143)) b s ∧ Fr [] w (w5.alloc (.cells #[.int .i64 f, .int .i64 t, .int .i64 m, .int .i64 (nb : Int), .slice na ln nc, .slice da ln dc] 143))) := ⟨HR.out.kept0 (f5.alloc _), f5.alloc _⟩
     obtain ⟨_, c1, c2, c3, c36, c37⟩ := HR6.out.1.cells
     rw [HSV.out] at c36
     rw [HNB.out] at c1
     have hb6 : (w5.alloc (.cells #[.int .i64 f, .int .i64 t, .int .i64 m, .int .i64 (nb : Int), .slice na ln nc, .slice da ln dc] 143)).heap[w5.heap.size]? = some (.cells #[.int .i64 f, .int .i64 t, .int .i64 m, .int .i64 (nb : Int), .slice na ln nc, .slice da ln dc] 143 (0, 0)) := heap_alloc_new w5 _
     have x0 : (w5.alloc (.cells #[.int .i64 f, .int .i64 t, .int .i64 m, .int .i64 (nb : Int), .slice na ln nc, .slice da ln dc] 143)).cell? ⟨w5.heap.size, 0, none⟩ = some (.int .i64 f) := (by rw [cell_of hb6]; rfl)
     have x1 : (w5.alloc (.cells #[.int .i64 f, .int .i64 t, .int .i64 m, .int .i64 (nb : Int), .slice na ln nc, .slice da ln dc] 143)).cell? ⟨w5.heap.size, 1, none⟩ = some (.int .i64 t) := (by rw [cell_of hb6]; rfl)
     have x2 : (w5.alloc (.cells #[.int .i64 f, .int .i64 t, .int .i64 m, .int .i64 (nb : Int), .slice na ln nc, .slice da ln dc] 143)).cell? ⟨w5.heap.size, 2, none⟩ = some (.int .i64 m) := (by rw [cell_of hb6]; rfl)
     have x3 : (w5.alloc (.cells #[.int .i64 f, .int .i64 t, .int .i64 m, .int .i64 (nb : Int), .slice na ln nc, .slice da ln dc] 143)).cell? ⟨w5.heap.size, 3, none⟩ = some (.int .i64 nb) := (by rw [cell_of hb6]; rfl)
     have HB6 : Hid ((w5.alloc (.cells #[.int .i64 f, .int .i64 t, .int .i64 m, .int .i64 (nb : Int), .slice na ln nc, .slice da ln dc] 143)).heap[w5.heap.size]? = some (.cells #[.int .i64 f, .int .i64 t, .int .i64 m, .int .i64 (nb : Int), .slice na ln nc, .slice da ln dc] 143 (0, 0)) ∧ ((w5.alloc (.cells #[.int .i64 f, .int .i64 t, .int .i64 m, .int .i64 (nb : Int), .slice na ln nc, .slice da ln dc] 143)).ownsRow w.heap.size 3 1 (.slice na ln nc) ln (l.map fun x => Value.int .i64 x.1) ∧ (w5.alloc (.cells #[.int .i64 f, .int .i64 t, .int .i64 m, .int .i64 (nb : Int), .slice na ln nc, .slice da ln dc] 143)).ownsRow w.heap.size 9 1 (.slice da ln dc) ln (l.map fun x => Value.string x.2.ba))) := ⟨hb6, hN5.alloc _, hD5.alloc _⟩
     clear hb6 hN5 hD5 f5 c2 c3 c37))
 obtain ⟨bx, hbx⟩ : ∃ bx, w5.heap.size = bx := ⟨_, rfl⟩
 obtain ⟨W6, hW6⟩ : ∃ W6, w5.alloc (.cells #[.int .i64 f, .int .i64 t, .int .i64 m, .int .i64 (nb : Int), .slice na ln nc, .slice da ln dc] 143) = W6 := ⟨_, rfl⟩
 rw [hbx] at x0 x1 x2 x3 HB6
 rw [hW6] at HR6 c1 c36 x0 x1 x2 x3 HB6
 rw [hW6, hbx]
 clear hW6 hbx
 go_quiet (fail)
 obtain ⟨W7, hW7⟩ : ∃ W7, W6.drewN nq = W7 := ⟨_, rfl⟩
 have HF67 : Hid (Fr [] W6 W7) := by rw [← hW7]; exact (Fr.refl _ _).drewN _
 rw [hW7]
 clear hW7 c1 c36 x0 x1 x2 x3
 have HB7 : Hid (W7.heap[bx]? = some (.cells #[.int .i64 f, .int .i64 t, .int .i64 m, .int .i64 (nb : Int), .slice na ln nc, .slice da ln dc] 143 (0, 0)) ∧ (W7.ownsRow w.heap.size 3 1 (.slice na ln nc) ln (l.map fun x => Value.int .i64 x.1) ∧ W7.ownsRow w.heap.size 9 1 (.slice da ln dc) ln (l.map fun x => Value.string x.2.ba))) := ⟨by rw [HF67.out.block bx (Array.getElem?_eq_some_iff.1 HB6.out.1).1 (by simp)]; exact HB6.out.1, own_fr' HB6.out.2.1 HF67.out, own_fr' HB6.out.2.2 HF67.out⟩
 have HR7 : Hid (RRep B W7 b s ∧ Fr [] w W7) := ⟨HR6.out.1.kept0 HF67.out, HR6.out.2.trans HF67.out (by simp)⟩
 obtain ⟨_, c1, c2, c3, c36, c37⟩ := HR7.out.1.cells
 rw [HSV.out] at c36
 rw [HNB.out] at c1
 have x0 : W7.cell? ⟨bx, 0, none⟩ = some (.int .i64 f) := (by rw [cell_of HB7.out.1]; rfl)
 have x1 : W7.cell? ⟨bx, 1, none⟩ = some (.int .i64 t) := (by rw [cell_of HB7.out.1]; rfl)
 have x2 : W7.cell? ⟨bx, 2, none⟩ = some (.int .i64 m) := (by rw [cell_of HB7.out.1]; rfl)
 have x3 : W7.cell? ⟨bx, 3, none⟩ = some (.int .i64 nb) := (by rw [cell_of HB7.out.1]; rfl)
 clear HR6 HB6 HF67 c2 c3 c37
 go_wp2
 go_ret2
 exact ⟨rfl, HR7.out.2⟩
set_option maxRecDepth 100000 in
set_option maxHeartbeats 3200000 in
theorem rrecv_dup (B b : Nat) (s : RSto) (tx : ByteArray) (w : World) (h : RRep B w b s) (f t m : Int) (nb ln : Nat) (l : List (Int × B4)) (hp : ∀ W, Calls Tryz.prog 81 #[.string tx] W fun e w' => ∃ vN vD, e = .returned (.tuple #[.agg #[.int .i64 f, .int .i64 t, .int .i64 m, .int .i64 (nb : Int), vN, vD], .bool true]) ∧ w'.ownsRow W.heap.size 3 1 vN ln (l.map fun x => Value.int .i64 x.1) ∧ w'.ownsRow W.heap.size 9 1 vD ln (l.map fun x => Value.string x.2.ba) ∧ Fr [] W w') (hl : s.sh.length ≤ 12) (hml : s.ms.length ≤ 12) (hnb : (nb : Int) = s.blocks) (hhs : (s.sh.any (fun x => x.guid == t) || s.ms.any (fun x => x.1 == t)) = true) :
  Calls Tryz.prog 53 #[.pointer (some ⟨b, 0, none⟩), .string tx] w fun e w' => e = .returned (.tuple #[.int .i64 0, .int .i64 7]) ∧ Fr [] w w' := by
 have H81 : Hid (∀ W, Calls Tryz.prog 81 #[.string tx] W fun e w' => ∃ vN vD, e = .returned (.tuple #[.agg #[.int .i64 f, .int .i64 t, .int .i64 m, .int .i64 (nb : Int), vN, vD], .bool true]) ∧ w'.ownsRow W.heap.size 3 1 vN ln (l.map fun x => Value.int .i64 x.1) ∧ w'.ownsRow W.heap.size 9 1 vD ln (l.map fun x => Value.string x.2.ba) ∧ Fr [] W w') := hp
 have HR : Hid (RRep B w b s) := h
 obtain ⟨ao, cap, hsv⟩ := own_shape h.sh
 obtain ⟨sn, hsn⟩ : ∃ sn, s.sh.length = sn := ⟨_, rfl⟩
 rw [hsn] at hsv
 obtain ⟨sb, hsb⟩ : ∃ sb, s.blocks = sb := ⟨_, rfl⟩
 have HSV : Hid (s.sv = .slice ao sn cap) := hsv
 have HNB : Hid (s.blocks = sb) := hsb
 have hst := st143
 have l3 := la3
 have l83 := la80
 have hb2 : ((nb : Int) != (sb : Int)) = false := by rw [← hsb]; simp [hnb]
 have HHs : Hid (∀ W, RRep B W b s → Calls Tryz.prog 64 #[.pointer (some ⟨b, 0, none⟩), .int .i64 t] W fun e w' => e = .returned (.bool true) ∧ w' = W) := fun W hW => by
  have h8 := rhas_any B b s t W hW (by omega) (by omega)
  rw [hhs] at h8
  exact h8
 clear hnb hhs
 clear h hp hsv
 go_enter Tryz.func53, Tryz.ntmps53
 go_wp2_with (first
  | (go_at_call 81; refine (H81.out _).mono ?_; rintro e w5 ⟨vN, vD, rfl, hN5, hD5, f5⟩
     obtain ⟨na, nc, hvN⟩ := own_shape hN5
     obtain ⟨da, dc, hvD⟩ := own_shape hD5
     subst hvN
     subst hvD
     have HR6 : Hid (RRep B (w5.alloc (.cells #[.int .i64 f, .int .i64 t, .int .i64 m, .int .i64 (nb : Int), .slice na ln nc, .slice da ln dc] 143)) b s ∧ Fr [] w (w5.alloc (.cells #[.int .i64 f, .int .i64 t, .int .i64 m, .int .i64 (nb : Int), .slice na ln nc, .slice da ln dc] 143))) := ⟨HR.out.kept0 (f5.alloc _), f5.alloc _⟩
     obtain ⟨_, c1, c2, c3, c36, c37⟩ := HR6.out.1.cells
     rw [HSV.out] at c36
     rw [HNB.out] at c1
     have hb6 : (w5.alloc (.cells #[.int .i64 f, .int .i64 t, .int .i64 m, .int .i64 (nb : Int), .slice na ln nc, .slice da ln dc] 143)).heap[w5.heap.size]? = some (.cells #[.int .i64 f, .int .i64 t, .int .i64 m, .int .i64 (nb : Int), .slice na ln nc, .slice da ln dc] 143 (0, 0)) := heap_alloc_new w5 _
     have x0 : (w5.alloc (.cells #[.int .i64 f, .int .i64 t, .int .i64 m, .int .i64 (nb : Int), .slice na ln nc, .slice da ln dc] 143)).cell? ⟨w5.heap.size, 0, none⟩ = some (.int .i64 f) := (by rw [cell_of hb6]; rfl)
     have x1 : (w5.alloc (.cells #[.int .i64 f, .int .i64 t, .int .i64 m, .int .i64 (nb : Int), .slice na ln nc, .slice da ln dc] 143)).cell? ⟨w5.heap.size, 1, none⟩ = some (.int .i64 t) := (by rw [cell_of hb6]; rfl)
     have x2 : (w5.alloc (.cells #[.int .i64 f, .int .i64 t, .int .i64 m, .int .i64 (nb : Int), .slice na ln nc, .slice da ln dc] 143)).cell? ⟨w5.heap.size, 2, none⟩ = some (.int .i64 m) := (by rw [cell_of hb6]; rfl)
     have x3 : (w5.alloc (.cells #[.int .i64 f, .int .i64 t, .int .i64 m, .int .i64 (nb : Int), .slice na ln nc, .slice da ln dc] 143)).cell? ⟨w5.heap.size, 3, none⟩ = some (.int .i64 nb) := (by rw [cell_of hb6]; rfl)
     have HB6 : Hid ((w5.alloc (.cells #[.int .i64 f, .int .i64 t, .int .i64 m, .int .i64 (nb : Int), .slice na ln nc, .slice da ln dc] 143)).heap[w5.heap.size]? = some (.cells #[.int .i64 f, .int .i64 t, .int .i64 m, .int .i64 (nb : Int), .slice na ln nc, .slice da ln dc] 143 (0, 0)) ∧ ((w5.alloc (.cells #[.int .i64 f, .int .i64 t, .int .i64 m, .int .i64 (nb : Int), .slice na ln nc, .slice da ln dc] 143)).ownsRow w.heap.size 3 1 (.slice na ln nc) ln (l.map fun x => Value.int .i64 x.1) ∧ (w5.alloc (.cells #[.int .i64 f, .int .i64 t, .int .i64 m, .int .i64 (nb : Int), .slice na ln nc, .slice da ln dc] 143)).ownsRow w.heap.size 9 1 (.slice da ln dc) ln (l.map fun x => Value.string x.2.ba))) := ⟨hb6, hN5.alloc _, hD5.alloc _⟩
     clear hb6 hN5 hD5 f5 c2 c3 c37))
 obtain ⟨bx, hbx⟩ : ∃ bx, w5.heap.size = bx := ⟨_, rfl⟩
 obtain ⟨W6, hW6⟩ : ∃ W6, w5.alloc (.cells #[.int .i64 f, .int .i64 t, .int .i64 m, .int .i64 (nb : Int), .slice na ln nc, .slice da ln dc] 143) = W6 := ⟨_, rfl⟩
 rw [hbx] at x0 x1 x2 x3 HB6
 rw [hW6] at HR6 c1 c36 x0 x1 x2 x3 HB6
 rw [hW6, hbx]
 clear hW6 hbx
 go_quiet (fail)
 obtain ⟨W7, hW7⟩ : ∃ W7, W6.drewN nq = W7 := ⟨_, rfl⟩
 have HF67 : Hid (Fr [] W6 W7) := by rw [← hW7]; exact (Fr.refl _ _).drewN _
 rw [hW7]
 clear hW7 c1 c36 x0 x1 x2 x3
 have HB7 : Hid (W7.heap[bx]? = some (.cells #[.int .i64 f, .int .i64 t, .int .i64 m, .int .i64 (nb : Int), .slice na ln nc, .slice da ln dc] 143 (0, 0)) ∧ (W7.ownsRow w.heap.size 3 1 (.slice na ln nc) ln (l.map fun x => Value.int .i64 x.1) ∧ W7.ownsRow w.heap.size 9 1 (.slice da ln dc) ln (l.map fun x => Value.string x.2.ba))) := ⟨by rw [HF67.out.block bx (Array.getElem?_eq_some_iff.1 HB6.out.1).1 (by simp)]; exact HB6.out.1, own_fr' HB6.out.2.1 HF67.out, own_fr' HB6.out.2.2 HF67.out⟩
 have HR7 : Hid (RRep B W7 b s ∧ Fr [] w W7) := ⟨HR6.out.1.kept0 HF67.out, HR6.out.2.trans HF67.out (by simp)⟩
 obtain ⟨_, c1, c2, c3, c36, c37⟩ := HR7.out.1.cells
 rw [HSV.out] at c36
 rw [HNB.out] at c1
 have x0 : W7.cell? ⟨bx, 0, none⟩ = some (.int .i64 f) := (by rw [cell_of HB7.out.1]; rfl)
 have x1 : W7.cell? ⟨bx, 1, none⟩ = some (.int .i64 t) := (by rw [cell_of HB7.out.1]; rfl)
 have x2 : W7.cell? ⟨bx, 2, none⟩ = some (.int .i64 m) := (by rw [cell_of HB7.out.1]; rfl)
 have x3 : W7.cell? ⟨bx, 3, none⟩ = some (.int .i64 nb) := (by rw [cell_of HB7.out.1]; rfl)
 clear HR6 HB6 HF67 c2 c3 c37
 go_wp2_with (first
  | (go_at_call 64; refine (HHs.out _ (by first | exact HR7.out.1)).mono ?_; rintro e w' ⟨rfl, hw'⟩; have hw'' := hw'.symm; subst hw''))
 go_ret2
 exact ⟨rfl, HR7.out.2⟩
set_option maxRecDepth 100000 in
set_option maxHeartbeats 3200000 in
theorem rrecv_lf (B b : Nat) (s : RSto) (tx : ByteArray) (w : World) (h : RRep B w b s) (f t m : Int) (nb ln : Nat) (l : List (Int × B4)) (hp : ∀ W, Calls Tryz.prog 81 #[.string tx] W fun e w' => ∃ vN vD, e = .returned (.tuple #[.agg #[.int .i64 f, .int .i64 t, .int .i64 m, .int .i64 (nb : Int), vN, vD], .bool true]) ∧ w'.ownsRow W.heap.size 3 1 vN ln (l.map fun x => Value.int .i64 x.1) ∧ w'.ownsRow W.heap.size 9 1 vD ln (l.map fun x => Value.string x.2.ba) ∧ Fr [] W w') (hl : s.sh.length ≤ 12) (hml : s.ms.length ≤ 12) (hnb : (nb : Int) = s.blocks) (hhs : (s.sh.any (fun x => x.guid == t) || s.ms.any (fun x => x.1 == t)) = false) (c : Int) (hfn : f ≠ rnewest s ∧ c = 6 ∨ f = rnewest s ∧ 12 ≤ s.sh.length ∧ c = 5) :
  Calls Tryz.prog 53 #[.pointer (some ⟨b, 0, none⟩), .string tx] w fun e w' => e = .returned (.tuple #[.int .i64 0, .int .i64 c]) ∧ Fr [] w w' := by
 have H81 : Hid (∀ W, Calls Tryz.prog 81 #[.string tx] W fun e w' => ∃ vN vD, e = .returned (.tuple #[.agg #[.int .i64 f, .int .i64 t, .int .i64 m, .int .i64 (nb : Int), vN, vD], .bool true]) ∧ w'.ownsRow W.heap.size 3 1 vN ln (l.map fun x => Value.int .i64 x.1) ∧ w'.ownsRow W.heap.size 9 1 vD ln (l.map fun x => Value.string x.2.ba) ∧ Fr [] W w') := hp
 have HR : Hid (RRep B w b s) := h
 obtain ⟨ao, cap, hsv⟩ := own_shape h.sh
 obtain ⟨sn, hsn⟩ : ∃ sn, s.sh.length = sn := ⟨_, rfl⟩
 rw [hsn] at hsv
 obtain ⟨sb, hsb⟩ : ∃ sb, s.blocks = sb := ⟨_, rfl⟩
 have HSV : Hid (s.sv = .slice ao sn cap) := hsv
 have HNB : Hid (s.blocks = sb) := hsb
 have hst := st143
 have l3 := la3
 have l83 := la80
 have hb2 : ((nb : Int) != (sb : Int)) = false := by rw [← hsb]; simp [hnb]
 have HHs : Hid (∀ W, RRep B W b s → Calls Tryz.prog 64 #[.pointer (some ⟨b, 0, none⟩), .int .i64 t] W fun e w' => e = .returned (.bool false) ∧ w' = W) := fun W hW => by
  have h8 := rhas_any B b s t W hW (by omega) (by omega)
  rw [hhs] at h8
  exact h8
 have HNw : Hid (∀ W, RRep B W b s → Calls Tryz.prog 82 #[.pointer (some ⟨b, 0, none⟩)] W fun e w' => e = .returned (.int .i64 (rnewest s)) ∧ Fr [] W w') := fun W hW => rnewest_any B b s W hW hl
 obtain ⟨nw, hnw⟩ : ∃ nw, rnewest s = nw := ⟨_, rfl⟩
 rw [hnw] at HNw hfn
 rw [hsn] at hfn
 clear hnb hhs hnw
 rcases hfn with ⟨hfn, rfl⟩ | ⟨hfn, h12, rfl⟩
 all_goals
  try have hq : (f != nw) = true := by simpa using hfn
  try have hq : (f != nw) = false := by simpa using hfn
  try have hq2 : (12 : Int) ≤ (sn : Int) := by omega
  clear hfn
  clear h hp hsv
  go_enter Tryz.func53, Tryz.ntmps53
  go_wp2_with (first
   | (go_at_call 81; refine (H81.out _).mono ?_; rintro e w5 ⟨vN, vD, rfl, hN5, hD5, f5⟩
      obtain ⟨na, nc, hvN⟩ := own_shape hN5
      obtain ⟨da, dc, hvD⟩ := own_shape hD5
      subst hvN
      subst hvD
      have HR6 : Hid (RRep B (w5.alloc (.cells #[.int .i64 f, .int .i64 t, .int .i64 m, .int .i64 (nb : Int), .slice na ln nc, .slice da ln dc] 143)) b s ∧ Fr [] w (w5.alloc (.cells #[.int .i64 f, .int .i64 t, .int .i64 m, .int .i64 (nb : Int), .slice na ln nc, .slice da ln dc] 143))) := ⟨HR.out.kept0 (f5.alloc _), f5.alloc _⟩
      obtain ⟨_, c1, c2, c3, c36, c37⟩ := HR6.out.1.cells
      rw [HSV.out] at c36
      rw [HNB.out] at c1
      have hb6 : (w5.alloc (.cells #[.int .i64 f, .int .i64 t, .int .i64 m, .int .i64 (nb : Int), .slice na ln nc, .slice da ln dc] 143)).heap[w5.heap.size]? = some (.cells #[.int .i64 f, .int .i64 t, .int .i64 m, .int .i64 (nb : Int), .slice na ln nc, .slice da ln dc] 143 (0, 0)) := heap_alloc_new w5 _
      have x0 : (w5.alloc (.cells #[.int .i64 f, .int .i64 t, .int .i64 m, .int .i64 (nb : Int), .slice na ln nc, .slice da ln dc] 143)).cell? ⟨w5.heap.size, 0, none⟩ = some (.int .i64 f) := (by rw [cell_of hb6]; rfl)
      have x1 : (w5.alloc (.cells #[.int .i64 f, .int .i64 t, .int .i64 m, .int .i64 (nb : Int), .slice na ln nc, .slice da ln dc] 143)).cell? ⟨w5.heap.size, 1, none⟩ = some (.int .i64 t) := (by rw [cell_of hb6]; rfl)
      have x2 : (w5.alloc (.cells #[.int .i64 f, .int .i64 t, .int .i64 m, .int .i64 (nb : Int), .slice na ln nc, .slice da ln dc] 143)).cell? ⟨w5.heap.size, 2, none⟩ = some (.int .i64 m) := (by rw [cell_of hb6]; rfl)
      have x3 : (w5.alloc (.cells #[.int .i64 f, .int .i64 t, .int .i64 m, .int .i64 (nb : Int), .slice na ln nc, .slice da ln dc] 143)).cell? ⟨w5.heap.size, 3, none⟩ = some (.int .i64 nb) := (by rw [cell_of hb6]; rfl)
      have HB6 : Hid ((w5.alloc (.cells #[.int .i64 f, .int .i64 t, .int .i64 m, .int .i64 (nb : Int), .slice na ln nc, .slice da ln dc] 143)).heap[w5.heap.size]? = some (.cells #[.int .i64 f, .int .i64 t, .int .i64 m, .int .i64 (nb : Int), .slice na ln nc, .slice da ln dc] 143 (0, 0)) ∧ ((w5.alloc (.cells #[.int .i64 f, .int .i64 t, .int .i64 m, .int .i64 (nb : Int), .slice na ln nc, .slice da ln dc] 143)).ownsRow w.heap.size 3 1 (.slice na ln nc) ln (l.map fun x => Value.int .i64 x.1) ∧ (w5.alloc (.cells #[.int .i64 f, .int .i64 t, .int .i64 m, .int .i64 (nb : Int), .slice na ln nc, .slice da ln dc] 143)).ownsRow w.heap.size 9 1 (.slice da ln dc) ln (l.map fun x => Value.string x.2.ba))) := ⟨hb6, hN5.alloc _, hD5.alloc _⟩
      clear hb6 hN5 hD5 f5 c2 c3 c37))
  obtain ⟨bx, hbx⟩ : ∃ bx, w5.heap.size = bx := ⟨_, rfl⟩
  obtain ⟨W6, hW6⟩ : ∃ W6, w5.alloc (.cells #[.int .i64 f, .int .i64 t, .int .i64 m, .int .i64 (nb : Int), .slice na ln nc, .slice da ln dc] 143) = W6 := ⟨_, rfl⟩
  rw [hbx] at x0 x1 x2 x3 HB6
  rw [hW6] at HR6 c1 c36 x0 x1 x2 x3 HB6
  rw [hW6, hbx]
  clear hW6 hbx
  go_quiet (fail)
  obtain ⟨W7, hW7⟩ : ∃ W7, W6.drewN nq = W7 := ⟨_, rfl⟩
  have HF67 : Hid (Fr [] W6 W7) := by rw [← hW7]; exact (Fr.refl _ _).drewN _
  rw [hW7]
  clear hW7 c1 c36 x0 x1 x2 x3
  have HB7 : Hid (W7.heap[bx]? = some (.cells #[.int .i64 f, .int .i64 t, .int .i64 m, .int .i64 (nb : Int), .slice na ln nc, .slice da ln dc] 143 (0, 0)) ∧ (W7.ownsRow w.heap.size 3 1 (.slice na ln nc) ln (l.map fun x => Value.int .i64 x.1) ∧ W7.ownsRow w.heap.size 9 1 (.slice da ln dc) ln (l.map fun x => Value.string x.2.ba))) := ⟨by rw [HF67.out.block bx (Array.getElem?_eq_some_iff.1 HB6.out.1).1 (by simp)]; exact HB6.out.1, own_fr' HB6.out.2.1 HF67.out, own_fr' HB6.out.2.2 HF67.out⟩
  have HR7 : Hid (RRep B W7 b s ∧ Fr [] w W7) := ⟨HR6.out.1.kept0 HF67.out, HR6.out.2.trans HF67.out (by simp)⟩
  obtain ⟨_, c1, c2, c3, c36, c37⟩ := HR7.out.1.cells
  rw [HSV.out] at c36
  rw [HNB.out] at c1
  have x0 : W7.cell? ⟨bx, 0, none⟩ = some (.int .i64 f) := (by rw [cell_of HB7.out.1]; rfl)
  have x1 : W7.cell? ⟨bx, 1, none⟩ = some (.int .i64 t) := (by rw [cell_of HB7.out.1]; rfl)
  have x2 : W7.cell? ⟨bx, 2, none⟩ = some (.int .i64 m) := (by rw [cell_of HB7.out.1]; rfl)
  have x3 : W7.cell? ⟨bx, 3, none⟩ = some (.int .i64 nb) := (by rw [cell_of HB7.out.1]; rfl)
  clear HR6 HB6 HF67 c2 c3 c37
  go_wp2_with (first
   | (go_at_call 64; refine (HHs.out _ (by first | exact HR7.out.1)).mono ?_; rintro e w' ⟨rfl, hw'⟩; have hw'' := hw'.symm; subst hw''))
  have HNw2 : Hid (∀ W, Fr [] W7 W → Calls Tryz.prog 82 #[.pointer (some ⟨b, 0, none⟩)] W fun e w' => e = .returned (.int .i64 nw) ∧ Fr [] W7 w' ∧ w'.cell? ⟨bx, 0, none⟩ = some (.int .i64 f) ∧ w'.cell? ⟨b, 36, none⟩ = some (.slice ao sn cap)) := fun W hW => (HNw.out W (HR7.out.1.kept0 hW)).mono fun e w' ⟨h1, h2⟩ => ⟨h1, hW.trans h2 (by simp), by rw [cell_of (by rw [(hW.trans h2 (by simp)).block bx (Array.getElem?_eq_some_iff.1 HB7.out.1).1 (by simp)]; exact HB7.out.1)]; rfl, by rw [← HSV.out]; exact (HR7.out.1.kept0 (hW.trans h2 (by simp))).cells.2.2.2.2.1⟩
  go_region_held3 (fun w' => w'.cell? ⟨bx, 0, none⟩ = some (.int .i64 f))
   (first | exact x0 | go_keep)
   (first
    | (go_at_call 82; refine (HNw2.out _ Fr.dd).mono ?_; rintro e w8 ⟨rfl, f8, x0, c36⟩; have H8 : Hid (Fr [] W7 w8) := f8; clear f8))
  all_goals
   go_wp2
   go_ret2
   exact ⟨rfl, by first | exact HR7.out.2.trans H8.out (by simp) | exact (HR7.out.2.trans H8.out (by simp)).drew⟩
end Go.Proofs.YthdhegmlknpllaaGreat
