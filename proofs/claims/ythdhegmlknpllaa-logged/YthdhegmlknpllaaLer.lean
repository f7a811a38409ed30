/-
  The walks of At (46) and of tetherkeep's is (21) where there is no such snapshot, of Snap (24) where there is no room.
-/
import Derived.Test.YthdhegmlknpllaaLon
namespace Go.Proofs.Ythdhegmlknpllaa
open Go.RowKit Go.Maps Go.MuLone

set_option maxRecDepth 100000 in
set_option maxHeartbeats 800000 in
theorem at_none (B b : Nat) (s : Sto) (g : Int) (k : Int) (w : World) (h : Rep B w b 0 s) (hl : s.ss.length ≤ 12) (hf : fi (fun y : Sn => y.guid == g) 0 s.ss = -1) :
    Calls Try.prog 46 #[.pointer (some ⟨b, 0, none⟩), .int .i64 g, .int .i64 k] w fun e w' => e = .returned (.tuple #[.string ⟨#[]⟩, .int .i64 3]) ∧ Rep B w' b 0 s ∧ Fr (foot b s) w w' := by
  have R1 := h.lock 1
  obtain ⟨w1, hw1⟩ : ∃ w1, w.setCell ⟨b, 0, none⟩ (.int .i32 1) = w1 := ⟨_, rfl⟩
  rw [hw1] at R1
  have HL := lock_free Try.muLib ⟨b, 0, none⟩ w h.cells.1 (h.frozen 0)
  have F1 : Fr (foot b s) w w1 := by rw [← hw1]; exact fr_lock b s w _
  have HF : Hid (w.setCell ⟨b, 0, none⟩ (.int .i32 1) = w1 ∧ Rep B w1 b 1 s ∧ Fr (foot b s) w w1) := ⟨hw1, R1, F1⟩
  have HS := findSnapshot_any B b 1 s g w1 R1 (by omega)
  rw [hf] at HS
  clear h R1 F1 hw1 hf
  go_enter_defers Try.func46, Try.ntmps46
  go_wp2_with (first
    | (go_at_call 47; refine HL.mono ?_; rintro e w' ⟨rfl, hw'⟩; rw [HF.out.1] at hw'; have hw' := hw'.symm; subst hw')
    | (go_at_call 55; refine HS.mono ?_; rintro e w2 ⟨rfl, hfr⟩; have HR2 : Hid (Rep B w2 b 1 s ∧ Fr (foot b s) w w2) := ⟨HF.out.2.1.kept0 hfr, HF.out.2.2.trans hfr (by simp)⟩; clear hfr))
  refine leaves_cons (f := 48) (args := #[.pointer (some ⟨b, 0, none⟩)]) (by simp) (by simp [go_sem]) ?_
  refine (unlock_deferred Try.muLib ⟨b, 0, none⟩ .returning _ HR2.out.1.cells.1 (HR2.out.1.frozen 0)).mono ?_
  rintro e u' w'' ⟨rfl, rfl, rfl⟩
  exact ⟨_, results_tmp2 rfl _ _ _, rfl, HR2.out.1.lock 0, HR2.out.2.setCell _ (Or.inl (by simp [foot]))⟩

set_option maxRecDepth 100000 in
set_option maxHeartbeats 1600000 in
theorem is_none (B b : Nat) (s : Sto) (g t : Int) (v : Value) (base n : Nat) (xs : List Value) (w : World) (h : Rep B w b 0 s) (hl : s.ss.length ≤ 12) (hf : fi (fun y : Sn => y.guid == g) 0 s.ss = -1) (hn : 1 ≤ n) (ho : w.ownsRow base 9 1 v n xs) :
    Calls Try.prog 21 #[imgv g t v, .pointer (some ⟨b, 0, none⟩)] w fun e w' => e = .returned (.bool false) ∧ Rep B w' b 0 s ∧ Fr (foot b s) w w' := by
  obtain ⟨ao, cap, hsh⟩ := own_shape ho
  subst hsh
  obtain ⟨bx, hbx⟩ : ∃ bx, w.heap.size = bx := ⟨_, rfl⟩
  obtain ⟨w0, hw0⟩ : ∃ w0, w.alloc (.cells #[.int .i64 g, .int .i64 t, .slice ao n cap] 46) = w0 := ⟨_, rfl⟩
  have b0 : w0.heap[bx]? = some (.cells #[.int .i64 g, .int .i64 t, .slice ao n cap] 46 (0, 0)) := by rw [← hw0, ← hbx]; exact heap_alloc_new w _
  have R0 : Rep B w0 b 0 s := by rw [← hw0]; exact h.kept0 ((Fr.refl _ _).alloc _)
  have F0 : Fr (foot b s) w w0 := by rw [← hw0]; exact (Fr.refl _ _).alloc _
  have e0 : w0.cell? ⟨bx, 0, none⟩ = some (.int .i64 g) := by rw [cell_of b0]; rfl
  have e2 : w0.cell? ⟨bx, 2, none⟩ = some (.slice ao n cap) := by rw [cell_of b0]; rfl
  have HA : Hid (Calls Try.prog 46 #[.pointer (some ⟨b, 0, none⟩), .int .i64 g, .int .i64 0] w0 fun e w' => e = .returned (.tuple #[.string ⟨#[]⟩, .int .i64 3]) ∧ Rep B w' b 0 s ∧ Fr (foot b s) w0 w') := at_none B b s g 0 w0 R0 hl hf
  have HB : Hid (Fr (foot b s) w w0) := F0
  have hn0 : (0 : Int) < (n : Int) := by omega
  unfold imgv
  have hw0' := hw0
  clear h ho R0 F0 b0 hw0 hf
  go_enter Try.func21, Try.ntmps21
  go_wp2
  go_loopg [5] 1 (fun gk i wr => gk = 1 ∧ i = .int .i64 0 ∧ wr = w0)
  case atStart => exact ⟨rfl, rfl, rfl⟩
  case round =>
    obtain ⟨rfl, rfl, rfl⟩ := hrel
    go_wp2_with (first
      | (go_at_call 46; refine HA.out.mono ?_; rintro e w4 ⟨rfl, r4, f4⟩; have H4 : Hid (Rep B w4 b 0 s ∧ Fr (foot b s) w w4) := ⟨r4, HB.out.trans f4 (fun j hj => Or.inl hj)⟩; clear r4 f4))
    go_ret
    exact ⟨rfl, H4.out⟩

set_option maxRecDepth 100000 in
set_option maxHeartbeats 1600000 in
theorem snap_full (B b : Nat) (s : Sto) (t : Int) (w : World) (h : Rep B w b 0 s) (ht : 0 ≤ t ∧ t ≤ 1073741824) (h1 : 1 ≤ s.id ∧ s.id ≤ 999) (h2 : 0 ≤ s.taken ∧ s.taken < 999999) (hf : Free s) (hs : s.ss.length = 12) (hm : s.ms.length ≤ 12) :
    Calls Try.prog 24 #[.pointer (some ⟨b, 0, none⟩), .int .i64 t] w fun e w' => e = .returned (.tuple #[.int .i64 0, .int .i64 5]) ∧ Rep B w' b 0 s ∧ Fr (foot b s) w w' := by
  have R1 := h.lock 1
  obtain ⟨w1, hw1⟩ : ∃ w1, w.setCell ⟨b, 0, none⟩ (.int .i32 1) = w1 := ⟨_, rfl⟩
  rw [hw1] at R1
  have HL := lock_free Try.muLib ⟨b, 0, none⟩ w h.cells.1 (h.frozen 0)
  have F1 : Fr (foot b s) w w1 := by rw [← hw1]; exact fr_lock b s w _
  have HF : Hid (w.setCell ⟨b, 0, none⟩ (.int .i32 1) = w1 ∧ Rep B w1 b 1 s ∧ Fr (foot b s) w w1) := ⟨hw1, R1, F1⟩
  have HN : Hid (Calls Try.prog 51 #[.pointer (some ⟨b, 0, none⟩)] w1 fun e w' => e = .returned (.int .i64 (s.taken + 1)) ∧ Fr [] w1 w') := next_any B b 1 s w1 R1 h1 ⟨by omega, by omega⟩ hf (by omega) (by omega)
  obtain ⟨ao, cap, hsv⟩ := own_shape h.ss
  rw [hs] at hsv
  have t1 : decide (t < 0) = false := by simp; omega
  have t2 : decide (t > 1073741824) = false := by simp; omega
  clear h R1 F1 hw1 hf
  go_enter_defers Try.func24, Try.ntmps24
  go_wp2_with (first
    | (go_at_call 47; refine HL.mono ?_; rintro e w' ⟨rfl, hw'⟩; rw [HF.out.1] at hw'; subst hw')
    | (go_at_call 51; refine HN.out.mono ?_; rintro e w2 ⟨rfl, hfr⟩
       have HR2 : Hid (Rep B w2 b 1 s ∧ Fr (foot b s) w w2) := ⟨HF.out.2.1.kept0 hfr, HF.out.2.2.trans hfr (by simp)⟩
       have c4 : w2.cell? ⟨b, 4, none⟩ = some (.slice ao 12 cap) := by rw [← hsv]; exact HR2.out.1.cells.2.2.2.1
       clear hfr))
  refine leaves_cons (f := 48) (args := #[.pointer (some ⟨b, 0, none⟩)]) (by simp) (by simp [go_sem]) ?_
  refine (unlock_deferred Try.muLib ⟨b, 0, none⟩ .returning _ HR2.out.1.cells.1 (HR2.out.1.frozen 0)).mono ?_
  rintro e u' w'' ⟨rfl, rfl, rfl⟩
  exact ⟨_, results_tmp2 rfl _ _ _, rfl, HR2.out.1.lock 0, HR2.out.2.setCell _ (Or.inl (by simp [foot]))⟩
end Go.Proofs.Ythdhegmlknpllaa
