import Derived.Test.YthdhegmlknpllaaGreatM32
/-
  The walk of wire's mayBe (108), where the numbers do not go together.
-/
namespace Go.Proofs.YthdhegmlknpllaaGreat
open Go.RowKit Go.Maps Go.MuLone

set_option maxRecDepth 100000 in
set_option maxHeartbeats 3200000 in
theorem mb_z_t (t m nb : Int) (l : List (Int × B4)) (v : Value) (base : Nat) (w : World) (ho : w.ownsRow base 137 5 v l.length (blC l)) (hm0 : 0 ≤ m)
    (ht : ¬ (1 ≤ t ∧ t ≤ 999999999)) :
    Calls Tryz.prog 108 #[.agg #[.int .i64 0, .int .i64 t, .int .i64 m, .int .i64 nb, v]] w fun e w' => e = .returned (.bool false) ∧ Fr [] w w' := by
  obtain ⟨ao, cap, hsh⟩ := own_shape ho
  subst hsh
  obtain ⟨bx, hbx⟩ : ∃ bx, w.heap.size = bx := ⟨_, rfl⟩
  obtain ⟨n, hn⟩ : ∃ n, l.length = n := ⟨_, rfl⟩
  obtain ⟨w0, hw0⟩ : ∃ w0, w.alloc (.cells #[.int .i64 0, .int .i64 t, .int .i64 m, .int .i64 nb, .slice ao n cap] 135) = w0 := ⟨_, rfl⟩
  have b0 : w0.heap[bx]? = some (.cells #[.int .i64 0, .int .i64 t, .int .i64 m, .int .i64 nb, .slice ao n cap] 135 (0, 0)) := by rw [← hw0, ← hbx]; exact heap_alloc_new w _
  have F0 : Fr [] w w0 := by rw [← hw0]; exact (Fr.refl _ _).alloc _
  have e0 : w0.cell? ⟨bx, 0, none⟩ = some (.int .i64 0) := by rw [cell_of b0]; rfl
  have e1 : w0.cell? ⟨bx, 1, none⟩ = some (.int .i64 t) := by rw [cell_of b0]; rfl
  have e2 : w0.cell? ⟨bx, 2, none⟩ = some (.int .i64 m) := by rw [cell_of b0]; rfl
  have e3 : w0.cell? ⟨bx, 3, none⟩ = some (.int .i64 nb) := by rw [cell_of b0]; rfl
  have e4 : w0.cell? ⟨bx, 4, none⟩ = some (.slice ao n cap) := by rw [cell_of b0]; rfl
  have HB : Hid (w0.heap[bx]? = some (.cells #[.int .i64 0, .int .i64 t, .int .i64 m, .int .i64 nb, .slice ao n cap] 135 (0, 0)) ∧ Fr [] w w0 ∧ w.ownsRow base 137 5 (.slice ao l.length cap) l.length (blC l) ∧ l.length = n) := ⟨b0, F0, ho, hn⟩
  have HG1 : Hid (∀ W, Calls Tryz.prog 131 #[.int .i64 t] W fun e w' => e = .returned (.bool false) ∧ w' = W) := fun W => by
    have := isGuid_any t W
    rw [show (decide (1 ≤ t) && decide (t ≤ 999999999)) = false by simp; omega] at this
    exact this
  have tm1 : (0 : Int) ≤ m := hm0
  rw [hn] at ho ⊢
  have hw0' := hw0
  clear hw0 ho b0 F0
  go_enter Tryz.func108, Tryz.ntmps108
  go_wp2_with (go_at_call 131; refine (HG1.out _).mono ?_; rintro e w' ⟨rfl, hw'⟩; have hw' := hw'.symm; subst hw')
  go_ret
  exact ⟨rfl, HB.out.2.1⟩

set_option maxRecDepth 100000 in
set_option maxHeartbeats 3200000 in
theorem mb_g_t (f : Int) (t m nb : Int) (l : List (Int × B4)) (v : Value) (base : Nat) (w : World) (ho : w.ownsRow base 137 5 v l.length (blC l)) (hm0 : 0 ≤ m)
    (hf : 1 ≤ f ∧ f ≤ 999999999) (ht : ¬ (1 ≤ t ∧ t ≤ 999999999)) :
    Calls Tryz.prog 108 #[.agg #[.int .i64 f, .int .i64 t, .int .i64 m, .int .i64 nb, v]] w fun e w' => e = .returned (.bool false) ∧ Fr [] w w' := by
  obtain ⟨ao, cap, hsh⟩ := own_shape ho
  subst hsh
  obtain ⟨bx, hbx⟩ : ∃ bx, w.heap.size = bx := ⟨_, rfl⟩
  obtain ⟨n, hn⟩ : ∃ n, l.length = n := ⟨_, rfl⟩
  obtain ⟨w0, hw0⟩ : ∃ w0, w.alloc (.cells #[.int .i64 f, .int .i64 t, .int .i64 m, .int .i64 nb, .slice ao n cap] 135) = w0 := ⟨_, rfl⟩
  have b0 : w0.heap[bx]? = some (.cells #[.int .i64 f, .int .i64 t, .int .i64 m, .int .i64 nb, .slice ao n cap] 135 (0, 0)) := by rw [← hw0, ← hbx]; exact heap_alloc_new w _
  have F0 : Fr [] w w0 := by rw [← hw0]; exact (Fr.refl _ _).alloc _
  have e0 : w0.cell? ⟨bx, 0, none⟩ = some (.int .i64 f) := by rw [cell_of b0]; rfl
  have e1 : w0.cell? ⟨bx, 1, none⟩ = some (.int .i64 t) := by rw [cell_of b0]; rfl
  have e2 : w0.cell? ⟨bx, 2, none⟩ = some (.int .i64 m) := by rw [cell_of b0]; rfl
  have e3 : w0.cell? ⟨bx, 3, none⟩ = some (.int .i64 nb) := by rw [cell_of b0]; rfl
  have e4 : w0.cell? ⟨bx, 4, none⟩ = some (.slice ao n cap) := by rw [cell_of b0]; rfl
  have HB : Hid (w0.heap[bx]? = some (.cells #[.int .i64 f, .int .i64 t, .int .i64 m, .int .i64 nb, .slice ao n cap] 135 (0, 0)) ∧ Fr [] w w0 ∧ w.ownsRow base 137 5 (.slice ao l.length cap) l.length (blC l) ∧ l.length = n) := ⟨b0, F0, ho, hn⟩
  have HG1 : Hid (∀ W, Calls Tryz.prog 131 #[.int .i64 t] W fun e w' => e = .returned (.bool false) ∧ w' = W) := fun W => by
    have := isGuid_any t W
    rw [show (decide (1 ≤ t) && decide (t ≤ 999999999)) = false by simp; omega] at this
    exact this
  have HG0 : Hid (∀ W, Calls Tryz.prog 131 #[.int .i64 f] W fun e w' => e = .returned (.bool true) ∧ w' = W) := fun W => by
    have := isGuid_any f W
    rw [show (decide (1 ≤ f) && decide (f ≤ 999999999)) = true by simp; omega] at this
    exact this
  have tf0 : (f == 0) = false := by simp; omega
  have tm1 : (0 : Int) ≤ m := hm0
  rw [hn] at ho ⊢
  have hw0' := hw0
  clear hw0 ho b0 F0
  go_enter Tryz.func108, Tryz.ntmps108
  go_wp2_with (first
    | (go_at_call_of 131 (Value.int .i64 f); refine (HG0.out _).mono ?_; rintro e w' ⟨rfl, hw'⟩; have hw' := hw'.symm; subst hw')
    | (go_at_call_of 131 (Value.int .i64 t); refine (HG1.out _).mono ?_; rintro e w' ⟨rfl, hw'⟩; have hw' := hw'.symm; subst hw'))
  go_ret
  exact ⟨rfl, HB.out.2.1⟩

set_option maxRecDepth 100000 in
set_option maxHeartbeats 3200000 in
theorem mb_b_t (f : Int) (t m nb : Int) (l : List (Int × B4)) (v : Value) (base : Nat) (w : World) (ho : w.ownsRow base 137 5 v l.length (blC l)) (hm0 : 0 ≤ m)
    (hf0 : f ≠ 0) (hf : ¬ (1 ≤ f ∧ f ≤ 999999999)) (ht : ¬ (1 ≤ t ∧ t ≤ 999999999)) :
    Calls Tryz.prog 108 #[.agg #[.int .i64 f, .int .i64 t, .int .i64 m, .int .i64 nb, v]] w fun e w' => e = .returned (.bool false) ∧ Fr [] w w' := by
  obtain ⟨ao, cap, hsh⟩ := own_shape ho
  subst hsh
  obtain ⟨bx, hbx⟩ : ∃ bx, w.heap.size = bx := ⟨_, rfl⟩
  obtain ⟨n, hn⟩ : ∃ n, l.length = n := ⟨_, rfl⟩
  obtain ⟨w0, hw0⟩ : ∃ w0, w.alloc (.cells #[.int .i64 f, .int .i64 t, .int .i64 m, .int .i64 nb, .slice ao n cap] 135) = w0 := ⟨_, rfl⟩
  have b0 : w0.heap[bx]? = some (.cells #[.int .i64 f, .int .i64 t, .int .i64 m, .int .i64 nb, .slice ao n cap] 135 (0, 0)) := by rw [← hw0, ← hbx]; exact heap_alloc_new w _
  have F0 : Fr [] w w0 := by rw [← hw0]; exact (Fr.refl _ _).alloc _
  have e0 : w0.cell? ⟨bx, 0, none⟩ = some (.int .i64 f) := by rw [cell_of b0]; rfl
  have e1 : w0.cell? ⟨bx, 1, none⟩ = some (.int .i64 t) := by rw [cell_of b0]; rfl
  have e2 : w0.cell? ⟨bx, 2, none⟩ = some (.int .i64 m) := by rw [cell_of b0]; rfl
  have e3 : w0.cell? ⟨bx, 3, none⟩ = some (.int .i64 nb) := by rw [cell_of b0]; rfl
  have e4 : w0.cell? ⟨bx, 4, none⟩ = some (.slice ao n cap) := by rw [cell_of b0]; rfl
  have HB : Hid (w0.heap[bx]? = some (.cells #[.int .i64 f, .int .i64 t, .int .i64 m, .int .i64 nb, .slice ao n cap] 135 (0, 0)) ∧ Fr [] w w0 ∧ w.ownsRow base 137 5 (.slice ao l.length cap) l.length (blC l) ∧ l.length = n) := ⟨b0, F0, ho, hn⟩
  have HG1 : Hid (∀ W, Calls Tryz.prog 131 #[.int .i64 t] W fun e w' => e = .returned (.bool false) ∧ w' = W) := fun W => by
    have := isGuid_any t W
    rw [show (decide (1 ≤ t) && decide (t ≤ 999999999)) = false by simp; omega] at this
    exact this
  have HG0 : Hid (∀ W, Calls Tryz.prog 131 #[.int .i64 f] W fun e w' => e = .returned (.bool false) ∧ w' = W) := fun W => by
    have := isGuid_any f W
    rw [show (decide (1 ≤ f) && decide (f ≤ 999999999)) = false by simp; omega] at this
    exact this
  have tf0 : (f == 0) = false := by simp; omega
  have tm1 : (0 : Int) ≤ m := hm0
  rw [hn] at ho ⊢
  have hw0' := hw0
  clear hw0 ho b0 F0
  go_enter Tryz.func108, Tryz.ntmps108
  go_wp2_with (first
    | (go_at_call_of 131 (Value.int .i64 f); refine (HG0.out _).mono ?_; rintro e w' ⟨rfl, hw'⟩; have hw' := hw'.symm; subst hw')
    | (go_at_call_of 131 (Value.int .i64 t); refine (HG1.out _).mono ?_; rintro e w' ⟨rfl, hw'⟩; have hw' := hw'.symm; subst hw'))
  go_ret
  exact ⟨rfl, HB.out.2.1⟩

set_option maxRecDepth 100000 in
set_option maxHeartbeats 3200000 in
theorem mb_b (f : Int) (t m nb : Int) (l : List (Int × B4)) (v : Value) (base : Nat) (w : World) (ho : w.ownsRow base 137 5 v l.length (blC l)) (hm0 : 0 ≤ m)
    (hf0 : f ≠ 0) (hf : ¬ (1 ≤ f ∧ f ≤ 999999999)) (ht : 1 ≤ t ∧ t ≤ 999999999) :
    Calls Tryz.prog 108 #[.agg #[.int .i64 f, .int .i64 t, .int .i64 m, .int .i64 nb, v]] w fun e w' => e = .returned (.bool false) ∧ Fr [] w w' := by
  obtain ⟨ao, cap, hsh⟩ := own_shape ho
  subst hsh
  obtain ⟨bx, hbx⟩ : ∃ bx, w.heap.size = bx := ⟨_, rfl⟩
  obtain ⟨n, hn⟩ : ∃ n, l.length = n := ⟨_, rfl⟩
  obtain ⟨w0, hw0⟩ : ∃ w0, w.alloc (.cells #[.int .i64 f, .int .i64 t, .int .i64 m, .int .i64 nb, .slice ao n cap] 135) = w0 := ⟨_, rfl⟩
  have b0 : w0.heap[bx]? = some (.cells #[.int .i64 f, .int .i64 t, .int .i64 m, .int .i64 nb, .slice ao n cap] 135 (0, 0)) := by rw [← hw0, ← hbx]; exact heap_alloc_new w _
  have F0 : Fr [] w w0 := by rw [← hw0]; exact (Fr.refl _ _).alloc _
  have e0 : w0.cell? ⟨bx, 0, none⟩ = some (.int .i64 f) := by rw [cell_of b0]; rfl
  have e1 : w0.cell? ⟨bx, 1, none⟩ = some (.int .i64 t) := by rw [cell_of b0]; rfl
  have e2 : w0.cell? ⟨bx, 2, none⟩ = some (.int .i64 m) := by rw [cell_of b0]; rfl
  have e3 : w0.cell? ⟨bx, 3, none⟩ = some (.int .i64 nb) := by rw [cell_of b0]; rfl
  have e4 : w0.cell? ⟨bx, 4, none⟩ = some (.slice ao n cap) := by rw [cell_of b0]; rfl
  have HB : Hid (w0.heap[bx]? = some (.cells #[.int .i64 f, .int .i64 t, .int .i64 m, .int .i64 nb, .slice ao n cap] 135 (0, 0)) ∧ Fr [] w w0 ∧ w.ownsRow base 137 5 (.slice ao l.length cap) l.length (blC l) ∧ l.length = n) := ⟨b0, F0, ho, hn⟩
  have HG1 : Hid (∀ W, Calls Tryz.prog 131 #[.int .i64 t] W fun e w' => e = .returned (.bool true) ∧ w' = W) := fun W => by
    have := isGuid_any t W
    rw [show (decide (1 ≤ t) && decide (t ≤ 999999999)) = true by simp; omega] at this
    exact this
  have HG0 : Hid (∀ W, Calls Tryz.prog 131 #[.int .i64 f] W fun e w' => e = .returned (.bool false) ∧ w' = W) := fun W => by
    have := isGuid_any f W
    rw [show (decide (1 ≤ f) && decide (f ≤ 999999999)) = false by simp; omega] at this
    exact this
  have tf0 : (f == 0) = false := by simp; omega
  have tm1 : (0 : Int) ≤ m := hm0
  rw [hn] at ho ⊢
  have hw0' := hw0
  clear hw0 ho b0 F0
  go_enter Tryz.func108, Tryz.ntmps108
  go_wp2_with (first
    | (go_at_call_of 131 (Value.int .i64 f); refine (HG0.out _).mono ?_; rintro e w' ⟨rfl, hw'⟩; have hw' := hw'.symm; subst hw')
    | (go_at_call_of 131 (Value.int .i64 t); refine (HG1.out _).mono ?_; rintro e w' ⟨rfl, hw'⟩; have hw' := hw'.symm; subst hw'))
  go_ret
  exact ⟨rfl, HB.out.2.1⟩

set_option maxRecDepth 100000 in
set_option maxHeartbeats 3200000 in
theorem mb_ft (f : Int) (t m nb : Int) (l : List (Int × B4)) (v : Value) (base : Nat) (w : World) (ho : w.ownsRow base 137 5 v l.length (blC l)) (hm0 : 0 ≤ m)
    (hf : 1 ≤ f ∧ f ≤ 999999999) (ht : 1 ≤ t ∧ t ≤ 999999999) (hft : f = t) :
    Calls Tryz.prog 108 #[.agg #[.int .i64 f, .int .i64 t, .int .i64 m, .int .i64 nb, v]] w fun e w' => e = .returned (.bool false) ∧ Fr [] w w' := by
  obtain ⟨ao, cap, hsh⟩ := own_shape ho
  subst hsh
  obtain ⟨bx, hbx⟩ : ∃ bx, w.heap.size = bx := ⟨_, rfl⟩
  obtain ⟨n, hn⟩ : ∃ n, l.length = n := ⟨_, rfl⟩
  obtain ⟨w0, hw0⟩ : ∃ w0, w.alloc (.cells #[.int .i64 f, .int .i64 t, .int .i64 m, .int .i64 nb, .slice ao n cap] 135) = w0 := ⟨_, rfl⟩
  have b0 : w0.heap[bx]? = some (.cells #[.int .i64 f, .int .i64 t, .int .i64 m, .int .i64 nb, .slice ao n cap] 135 (0, 0)) := by rw [← hw0, ← hbx]; exact heap_alloc_new w _
  have F0 : Fr [] w w0 := by rw [← hw0]; exact (Fr.refl _ _).alloc _
  have e0 : w0.cell? ⟨bx, 0, none⟩ = some (.int .i64 f) := by rw [cell_of b0]; rfl
  have e1 : w0.cell? ⟨bx, 1, none⟩ = some (.int .i64 t) := by rw [cell_of b0]; rfl
  have e2 : w0.cell? ⟨bx, 2, none⟩ = some (.int .i64 m) := by rw [cell_of b0]; rfl
  have e3 : w0.cell? ⟨bx, 3, none⟩ = some (.int .i64 nb) := by rw [cell_of b0]; rfl
  have e4 : w0.cell? ⟨bx, 4, none⟩ = some (.slice ao n cap) := by rw [cell_of b0]; rfl
  have HB : Hid (w0.heap[bx]? = some (.cells #[.int .i64 f, .int .i64 t, .int .i64 m, .int .i64 nb, .slice ao n cap] 135 (0, 0)) ∧ Fr [] w w0 ∧ w.ownsRow base 137 5 (.slice ao l.length cap) l.length (blC l) ∧ l.length = n) := ⟨b0, F0, ho, hn⟩
  have HG1 : Hid (∀ W, Calls Tryz.prog 131 #[.int .i64 t] W fun e w' => e = .returned (.bool true) ∧ w' = W) := fun W => by
    have := isGuid_any t W
    rw [show (decide (1 ≤ t) && decide (t ≤ 999999999)) = true by simp; omega] at this
    exact this
  have HG0 : Hid (∀ W, Calls Tryz.prog 131 #[.int .i64 f] W fun e w' => e = .returned (.bool true) ∧ w' = W) := fun W => by
    have := isGuid_any f W
    rw [show (decide (1 ≤ f) && decide (f ≤ 999999999)) = true by simp; omega] at this
    exact this
  have tf0 : (f == 0) = false := by simp; omega
  have tm1 : (0 : Int) ≤ m := hm0
  subst hft
  have tft : (f == f) = true := by simp
  rw [hn] at ho ⊢
  have hw0' := hw0
  clear hw0 ho b0 F0
  go_enter Tryz.func108, Tryz.ntmps108
  go_wp2_with (go_at_call 131; refine (HG1.out _).mono ?_; rintro e w' ⟨rfl, hw'⟩; have hw' := hw'.symm; subst hw')
  go_ret
  exact ⟨rfl, HB.out.2.1⟩

set_option maxRecDepth 100000 in
set_option maxHeartbeats 3200000 in
theorem mb_z_m (t m nb : Int) (l : List (Int × B4)) (v : Value) (base : Nat) (w : World) (ho : w.ownsRow base 137 5 v l.length (blC l)) (hm0 : 0 ≤ m)
    (ht : 1 ≤ t ∧ t ≤ 999999999) (hm : 1073741824 < m) :
    Calls Tryz.prog 108 #[.agg #[.int .i64 0, .int .i64 t, .int .i64 m, .int .i64 nb, v]] w fun e w' => e = .returned (.bool false) ∧ Fr [] w w' := by
  obtain ⟨ao, cap, hsh⟩ := own_shape ho
  subst hsh
  obtain ⟨bx, hbx⟩ : ∃ bx, w.heap.size = bx := ⟨_, rfl⟩
  obtain ⟨n, hn⟩ : ∃ n, l.length = n := ⟨_, rfl⟩
  obtain ⟨w0, hw0⟩ : ∃ w0, w.alloc (.cells #[.int .i64 0, .int .i64 t, .int .i64 m, .int .i64 nb, .slice ao n cap] 135) = w0 := ⟨_, rfl⟩
  have b0 : w0.heap[bx]? = some (.cells #[.int .i64 0, .int .i64 t, .int .i64 m, .int .i64 nb, .slice ao n cap] 135 (0, 0)) := by rw [← hw0, ← hbx]; exact heap_alloc_new w _
  have F0 : Fr [] w w0 := by rw [← hw0]; exact (Fr.refl _ _).alloc _
  have e0 : w0.cell? ⟨bx, 0, none⟩ = some (.int .i64 0) := by rw [cell_of b0]; rfl
  have e1 : w0.cell? ⟨bx, 1, none⟩ = some (.int .i64 t) := by rw [cell_of b0]; rfl
  have e2 : w0.cell? ⟨bx, 2, none⟩ = some (.int .i64 m) := by rw [cell_of b0]; rfl
  have e3 : w0.cell? ⟨bx, 3, none⟩ = some (.int .i64 nb) := by rw [cell_of b0]; rfl
  have e4 : w0.cell? ⟨bx, 4, none⟩ = some (.slice ao n cap) := by rw [cell_of b0]; rfl
  have HB : Hid (w0.heap[bx]? = some (.cells #[.int .i64 0, .int .i64 t, .int .i64 m, .int .i64 nb, .slice ao n cap] 135 (0, 0)) ∧ Fr [] w w0 ∧ w.ownsRow base 137 5 (.slice ao l.length cap) l.length (blC l) ∧ l.length = n) := ⟨b0, F0, ho, hn⟩
  have HG1 : Hid (∀ W, Calls Tryz.prog 131 #[.int .i64 t] W fun e w' => e = .returned (.bool true) ∧ w' = W) := fun W => by
    have := isGuid_any t W
    rw [show (decide (1 ≤ t) && decide (t ≤ 999999999)) = true by simp; omega] at this
    exact this
  have tm1 : (0 : Int) ≤ m := hm0
  have tft : ((0 : Int) == t) = false := by simp; omega
  have tm2 : decide (m ≤ 1073741824) = false := by simp; omega
  rw [hn] at ho ⊢
  have hw0' := hw0
  clear hw0 ho b0 F0
  go_enter Tryz.func108, Tryz.ntmps108
  go_wp2_with (go_at_call 131; refine (HG1.out _).mono ?_; rintro e w' ⟨rfl, hw'⟩; have hw' := hw'.symm; subst hw')
  go_ret
  exact ⟨rfl, HB.out.2.1⟩

set_option maxRecDepth 100000 in
set_option maxHeartbeats 3200000 in
theorem mb_g_m (f : Int) (t m nb : Int) (l : List (Int × B4)) (v : Value) (base : Nat) (w : World) (ho : w.ownsRow base 137 5 v l.length (blC l)) (hm0 : 0 ≤ m)
    (hf : 1 ≤ f ∧ f ≤ 999999999) (ht : 1 ≤ t ∧ t ≤ 999999999) (hft : f ≠ t) (hm : 1073741824 < m) :
    Calls Tryz.prog 108 #[.agg #[.int .i64 f, .int .i64 t, .int .i64 m, .int .i64 nb, v]] w fun e w' => e = .returned (.bool false) ∧ Fr [] w w' := by
  obtain ⟨ao, cap, hsh⟩ := own_shape ho
  subst hsh
  obtain ⟨bx, hbx⟩ : ∃ bx, w.heap.size = bx := ⟨_, rfl⟩
  obtain ⟨n, hn⟩ : ∃ n, l.length = n := ⟨_, rfl⟩
  obtain ⟨w0, hw0⟩ : ∃ w0, w.alloc (.cells #[.int .i64 f, .int .i64 t, .int .i64 m, .int .i64 nb, .slice ao n cap] 135) = w0 := ⟨_, rfl⟩
  have b0 : w0.heap[bx]? = some (.cells #[.int .i64 f, .int .i64 t, .int .i64 m, .int .i64 nb, .slice ao n cap] 135 (0, 0)) := by rw [← hw0, ← hbx]; exact heap_alloc_new w _
  have F0 : Fr [] w w0 := by rw [← hw0]; exact (Fr.refl _ _).alloc _
  have e0 : w0.cell? ⟨bx, 0, none⟩ = some (.int .i64 f) := by rw [cell_of b0]; rfl
  have e1 : w0.cell? ⟨bx, 1, none⟩ = some (.int .i64 t) := by rw [cell_of b0]; rfl
  have e2 : w0.cell? ⟨bx, 2, none⟩ = some (.int .i64 m) := by rw [cell_of b0]; rfl
  have e3 : w0.cell? ⟨bx, 3, none⟩ = some (.int .i64 nb) := by rw [cell_of b0]; rfl
  have e4 : w0.cell? ⟨bx, 4, none⟩ = some (.slice ao n cap) := by rw [cell_of b0]; rfl
  have HB : Hid (w0.heap[bx]? = some (.cells #[.int .i64 f, .int .i64 t, .int .i64 m, .int .i64 nb, .slice ao n cap] 135 (0, 0)) ∧ Fr [] w w0 ∧ w.ownsRow base 137 5 (.slice ao l.length cap) l.length (blC l) ∧ l.length = n) := ⟨b0, F0, ho, hn⟩
  have HG1 : Hid (∀ W, Calls Tryz.prog 131 #[.int .i64 t] W fun e w' => e = .returned (.bool true) ∧ w' = W) := fun W => by
    have := isGuid_any t W
    rw [show (decide (1 ≤ t) && decide (t ≤ 999999999)) = true by simp; omega] at this
    exact this
  have HG0 : Hid (∀ W, Calls Tryz.prog 131 #[.int .i64 f] W fun e w' => e = .returned (.bool true) ∧ w' = W) := fun W => by
    have := isGuid_any f W
    rw [show (decide (1 ≤ f) && decide (f ≤ 999999999)) = true by simp; omega] at this
    exact this
  have tf0 : (f == 0) = false := by simp; omega
  have tm1 : (0 : Int) ≤ m := hm0
  have tft : (f == t) = false := by simpa using hft
  have tm2 : decide (m ≤ 1073741824) = false := by simp; omega
  rw [hn] at ho ⊢
  have hw0' := hw0
  clear hw0 ho b0 F0
  go_enter Tryz.func108, Tryz.ntmps108
  go_wp2_with (first
    | (go_at_call_of 131 (Value.int .i64 f); refine (HG0.out _).mono ?_; rintro e w' ⟨rfl, hw'⟩; have hw' := hw'.symm; subst hw')
    | (go_at_call_of 131 (Value.int .i64 t); refine (HG1.out _).mono ?_; rintro e w' ⟨rfl, hw'⟩; have hw' := hw'.symm; subst hw'))
  go_ret
  exact ⟨rfl, HB.out.2.1⟩

set_option maxRecDepth 100000 in
set_option maxHeartbeats 3200000 in
theorem mb_z_n1 (t m nb : Int) (l : List (Int × B4)) (v : Value) (base : Nat) (w : World) (ho : w.ownsRow base 137 5 v l.length (blC l)) (hm0 : 0 ≤ m)
    (ht : 1 ≤ t ∧ t ≤ 999999999) (hm : m ≤ 1073741824) (hn1 : nb < 1) :
    Calls Tryz.prog 108 #[.agg #[.int .i64 0, .int .i64 t, .int .i64 m, .int .i64 nb, v]] w fun e w' => e = .returned (.bool false) ∧ Fr [] w w' := by
  obtain ⟨ao, cap, hsh⟩ := own_shape ho
  subst hsh
  obtain ⟨bx, hbx⟩ : ∃ bx, w.heap.size = bx := ⟨_, rfl⟩
  obtain ⟨n, hn⟩ : ∃ n, l.length = n := ⟨_, rfl⟩
  obtain ⟨w0, hw0⟩ : ∃ w0, w.alloc (.cells #[.int .i64 0, .int .i64 t, .int .i64 m, .int .i64 nb, .slice ao n cap] 135) = w0 := ⟨_, rfl⟩
  have b0 : w0.heap[bx]? = some (.cells #[.int .i64 0, .int .i64 t, .int .i64 m, .int .i64 nb, .slice ao n cap] 135 (0, 0)) := by rw [← hw0, ← hbx]; exact heap_alloc_new w _
  have F0 : Fr [] w w0 := by rw [← hw0]; exact (Fr.refl _ _).alloc _
  have e0 : w0.cell? ⟨bx, 0, none⟩ = some (.int .i64 0) := by rw [cell_of b0]; rfl
  have e1 : w0.cell? ⟨bx, 1, none⟩ = some (.int .i64 t) := by rw [cell_of b0]; rfl
  have e2 : w0.cell? ⟨bx, 2, none⟩ = some (.int .i64 m) := by rw [cell_of b0]; rfl
  have e3 : w0.cell? ⟨bx, 3, none⟩ = some (.int .i64 nb) := by rw [cell_of b0]; rfl
  have e4 : w0.cell? ⟨bx, 4, none⟩ = some (.slice ao n cap) := by rw [cell_of b0]; rfl
  have HB : Hid (w0.heap[bx]? = some (.cells #[.int .i64 0, .int .i64 t, .int .i64 m, .int .i64 nb, .slice ao n cap] 135 (0, 0)) ∧ Fr [] w w0 ∧ w.ownsRow base 137 5 (.slice ao l.length cap) l.length (blC l) ∧ l.length = n) := ⟨b0, F0, ho, hn⟩
  have HG1 : Hid (∀ W, Calls Tryz.prog 131 #[.int .i64 t] W fun e w' => e = .returned (.bool true) ∧ w' = W) := fun W => by
    have := isGuid_any t W
    rw [show (decide (1 ≤ t) && decide (t ≤ 999999999)) = true by simp; omega] at this
    exact this
  have tm1 : (0 : Int) ≤ m := hm0
  have tft : ((0 : Int) == t) = false := by simp; omega
  have tm2 : m ≤ 1073741824 := hm
  rw [hn] at ho ⊢
  have hw0' := hw0
  clear hw0 ho b0 F0
  go_enter Tryz.func108, Tryz.ntmps108
  go_wp2_with (go_at_call 131; refine (HG1.out _).mono ?_; rintro e w' ⟨rfl, hw'⟩; have hw' := hw'.symm; subst hw')
  go_ret
  exact ⟨rfl, HB.out.2.1⟩

set_option maxRecDepth 100000 in
set_option maxHeartbeats 3200000 in
theorem mb_g_n1 (f : Int) (t m nb : Int) (l : List (Int × B4)) (v : Value) (base : Nat) (w : World) (ho : w.ownsRow base 137 5 v l.length (blC l)) (hm0 : 0 ≤ m)
    (hf : 1 ≤ f ∧ f ≤ 999999999) (ht : 1 ≤ t ∧ t ≤ 999999999) (hft : f ≠ t) (hm : m ≤ 1073741824) (hn1 : nb < 1) :
    Calls Tryz.prog 108 #[.agg #[.int .i64 f, .int .i64 t, .int .i64 m, .int .i64 nb, v]] w fun e w' => e = .returned (.bool false) ∧ Fr [] w w' := by
  obtain ⟨ao, cap, hsh⟩ := own_shape ho
  subst hsh
  obtain ⟨bx, hbx⟩ : ∃ bx, w.heap.size = bx := ⟨_, rfl⟩
  obtain ⟨n, hn⟩ : ∃ n, l.length = n := ⟨_, rfl⟩
  obtain ⟨w0, hw0⟩ : ∃ w0, w.alloc (.cells #[.int .i64 f, .int .i64 t, .int .i64 m, .int .i64 nb, .slice ao n cap] 135) = w0 := ⟨_, rfl⟩
  have b0 : w0.heap[bx]? = some (.cells #[.int .i64 f, .int .i64 t, .int .i64 m, .int .i64 nb, .slice ao n cap] 135 (0, 0)) := by rw [← hw0, ← hbx]; exact heap_alloc_new w _
  have F0 : Fr [] w w0 := by rw [← hw0]; exact (Fr.refl _ _).alloc _
  have e0 : w0.cell? ⟨bx, 0, none⟩ = some (.int .i64 f) := by rw [cell_of b0]; rfl
  have e1 : w0.cell? ⟨bx, 1, none⟩ = some (.int .i64 t) := by rw [cell_of b0]; rfl
  have e2 : w0.cell? ⟨bx, 2, none⟩ = some (.int .i64 m) := by rw [cell_of b0]; rfl
  have e3 : w0.cell? ⟨bx, 3, none⟩ = some (.int .i64 nb) := by rw [cell_of b0]; rfl
  have e4 : w0.cell? ⟨bx, 4, none⟩ = some (.slice ao n cap) := by rw [cell_of b0]; rfl
  have HB : Hid (w0.heap[bx]? = some (.cells #[.int .i64 f, .int .i64 t, .int .i64 m, .int .i64 nb, .slice ao n cap] 135 (0, 0)) ∧ Fr [] w w0 ∧ w.ownsRow base 137 5 (.slice ao l.length cap) l.length (blC l) ∧ l.length = n) := ⟨b0, F0, ho, hn⟩
  have HG1 : Hid (∀ W, Calls Tryz.prog 131 #[.int .i64 t] W fun e w' => e = .returned (.bool true) ∧ w' = W) := fun W => by
    have := isGuid_any t W
    rw [show (decide (1 ≤ t) && decide (t ≤ 999999999)) = true by simp; omega] at this
    exact this
  have HG0 : Hid (∀ W, Calls Tryz.prog 131 #[.int .i64 f] W fun e w' => e = .returned (.bool true) ∧ w' = W) := fun W => by
    have := isGuid_any f W
    rw [show (decide (1 ≤ f) && decide (f ≤ 999999999)) = true by simp; omega] at this
    exact this
  have tf0 : (f == 0) = false := by simp; omega
  have tm1 : (0 : Int) ≤ m := hm0
  have tft : (f == t) = false := by simpa using hft
  have tm2 : m ≤ 1073741824 := hm
  rw [hn] at ho ⊢
  have hw0' := hw0
  clear hw0 ho b0 F0
  go_enter Tryz.func108, Tryz.ntmps108
  go_wp2_with (first
    | (go_at_call_of 131 (Value.int .i64 f); refine (HG0.out _).mono ?_; rintro e w' ⟨rfl, hw'⟩; have hw' := hw'.symm; subst hw')
    | (go_at_call_of 131 (Value.int .i64 t); refine (HG1.out _).mono ?_; rintro e w' ⟨rfl, hw'⟩; have hw' := hw'.symm; subst hw'))
  go_ret
  exact ⟨rfl, HB.out.2.1⟩

set_option maxRecDepth 100000 in
set_option maxHeartbeats 3200000 in
theorem mb_z_n2 (t m nb : Int) (l : List (Int × B4)) (v : Value) (base : Nat) (w : World) (ho : w.ownsRow base 137 5 v l.length (blC l)) (hm0 : 0 ≤ m)
    (ht : 1 ≤ t ∧ t ≤ 999999999) (hm : m ≤ 1073741824) (hn1 : 16 < nb) :
    Calls Tryz.prog 108 #[.agg #[.int .i64 0, .int .i64 t, .int .i64 m, .int .i64 nb, v]] w fun e w' => e = .returned (.bool false) ∧ Fr [] w w' := by
  obtain ⟨ao, cap, hsh⟩ := own_shape ho
  subst hsh
  obtain ⟨bx, hbx⟩ : ∃ bx, w.heap.size = bx := ⟨_, rfl⟩
  obtain ⟨n, hn⟩ : ∃ n, l.length = n := ⟨_, rfl⟩
  obtain ⟨w0, hw0⟩ : ∃ w0, w.alloc (.cells #[.int .i64 0, .int .i64 t, .int .i64 m, .int .i64 nb, .slice ao n cap] 135) = w0 := ⟨_, rfl⟩
  have b0 : w0.heap[bx]? = some (.cells #[.int .i64 0, .int .i64 t, .int .i64 m, .int .i64 nb, .slice ao n cap] 135 (0, 0)) := by rw [← hw0, ← hbx]; exact heap_alloc_new w _
  have F0 : Fr [] w w0 := by rw [← hw0]; exact (Fr.refl _ _).alloc _
  have e0 : w0.cell? ⟨bx, 0, none⟩ = some (.int .i64 0) := by rw [cell_of b0]; rfl
  have e1 : w0.cell? ⟨bx, 1, none⟩ = some (.int .i64 t) := by rw [cell_of b0]; rfl
  have e2 : w0.cell? ⟨bx, 2, none⟩ = some (.int .i64 m) := by rw [cell_of b0]; rfl
  have e3 : w0.cell? ⟨bx, 3, none⟩ = some (.int .i64 nb) := by rw [cell_of b0]; rfl
  have e4 : w0.cell? ⟨bx, 4, none⟩ = some (.slice ao n cap) := by rw [cell_of b0]; rfl
  have HB : Hid (w0.heap[bx]? = some (.cells #[.int .i64 0, .int .i64 t, .int .i64 m, .int .i64 nb, .slice ao n cap] 135 (0, 0)) ∧ Fr [] w w0 ∧ w.ownsRow base 137 5 (.slice ao l.length cap) l.length (blC l) ∧ l.length = n) := ⟨b0, F0, ho, hn⟩
  have HG1 : Hid (∀ W, Calls Tryz.prog 131 #[.int .i64 t] W fun e w' => e = .returned (.bool true) ∧ w' = W) := fun W => by
    have := isGuid_any t W
    rw [show (decide (1 ≤ t) && decide (t ≤ 999999999)) = true by simp; omega] at this
    exact this
  have tm1 : (0 : Int) ≤ m := hm0
  have tft : ((0 : Int) == t) = false := by simp; omega
  have tm2 : m ≤ 1073741824 := hm
  have tn1 : ¬ nb < 1 := by omega
  rw [hn] at ho ⊢
  have hw0' := hw0
  clear hw0 ho b0 F0
  go_enter Tryz.func108, Tryz.ntmps108
  go_wp2_with (go_at_call 131; refine (HG1.out _).mono ?_; rintro e w' ⟨rfl, hw'⟩; have hw' := hw'.symm; subst hw')
  go_ret
  exact ⟨rfl, HB.out.2.1⟩

set_option maxRecDepth 100000 in
set_option maxHeartbeats 3200000 in
theorem mb_g_n2 (f : Int) (t m nb : Int) (l : List (Int × B4)) (v : Value) (base : Nat) (w : World) (ho : w.ownsRow base 137 5 v l.length (blC l)) (hm0 : 0 ≤ m)
    (hf : 1 ≤ f ∧ f ≤ 999999999) (ht : 1 ≤ t ∧ t ≤ 999999999) (hft : f ≠ t) (hm : m ≤ 1073741824) (hn1 : 16 < nb) :
    Calls Tryz.prog 108 #[.agg #[.int .i64 f, .int .i64 t, .int .i64 m, .int .i64 nb, v]] w fun e w' => e = .returned (.bool false) ∧ Fr [] w w' := by
  obtain ⟨ao, cap, hsh⟩ := own_shape ho
  subst hsh
  obtain ⟨bx, hbx⟩ : ∃ bx, w.heap.size = bx := ⟨_, rfl⟩
  obtain ⟨n, hn⟩ : ∃ n, l.length = n := ⟨_, rfl⟩
  obtain ⟨w0, hw0⟩ : ∃ w0, w.alloc (.cells #[.int .i64 f, .int .i64 t, .int .i64 m, .int .i64 nb, .slice ao n cap] 135) = w0 := ⟨_, rfl⟩
  have b0 : w0.heap[bx]? = some (.cells #[.int .i64 f, .int .i64 t, .int .i64 m, .int .i64 nb, .slice ao n cap] 135 (0, 0)) := by rw [← hw0, ← hbx]; exact heap_alloc_new w _
  have F0 : Fr [] w w0 := by rw [← hw0]; exact (Fr.refl _ _).alloc _
  have e0 : w0.cell? ⟨bx, 0, none⟩ = some (.int .i64 f) := by rw [cell_of b0]; rfl
  have e1 : w0.cell? ⟨bx, 1, none⟩ = some (.int .i64 t) := by rw [cell_of b0]; rfl
  have e2 : w0.cell? ⟨bx, 2, none⟩ = some (.int .i64 m) := by rw [cell_of b0]; rfl
  have e3 : w0.cell? ⟨bx, 3, none⟩ = some (.int .i64 nb) := by rw [cell_of b0]; rfl
  have e4 : w0.cell? ⟨bx, 4, none⟩ = some (.slice ao n cap) := by rw [cell_of b0]; rfl
  have HB : Hid (w0.heap[bx]? = some (.cells #[.int .i64 f, .int .i64 t, .int .i64 m, .int .i64 nb, .slice ao n cap] 135 (0, 0)) ∧ Fr [] w w0 ∧ w.ownsRow base 137 5 (.slice ao l.length cap) l.length (blC l) ∧ l.length = n) := ⟨b0, F0, ho, hn⟩
  have HG1 : Hid (∀ W, Calls Tryz.prog 131 #[.int .i64 t] W fun e w' => e = .returned (.bool true) ∧ w' = W) := fun W => by
    have := isGuid_any t W
    rw [show (decide (1 ≤ t) && decide (t ≤ 999999999)) = true by simp; omega] at this
    exact this
  have HG0 : Hid (∀ W, Calls Tryz.prog 131 #[.int .i64 f] W fun e w' => e = .returned (.bool true) ∧ w' = W) := fun W => by
    have := isGuid_any f W
    rw [show (decide (1 ≤ f) && decide (f ≤ 999999999)) = true by simp; omega] at this
    exact this
  have tf0 : (f == 0) = false := by simp; omega
  have tm1 : (0 : Int) ≤ m := hm0
  have tft : (f == t) = false := by simpa using hft
  have tm2 : m ≤ 1073741824 := hm
  have tn1 : ¬ nb < 1 := by omega
  rw [hn] at ho ⊢
  have hw0' := hw0
  clear hw0 ho b0 F0
  go_enter Tryz.func108, Tryz.ntmps108
  go_wp2_with (first
    | (go_at_call_of 131 (Value.int .i64 f); refine (HG0.out _).mono ?_; rintro e w' ⟨rfl, hw'⟩; have hw' := hw'.symm; subst hw')
    | (go_at_call_of 131 (Value.int .i64 t); refine (HG1.out _).mono ?_; rintro e w' ⟨rfl, hw'⟩; have hw' := hw'.symm; subst hw'))
  go_ret
  exact ⟨rfl, HB.out.2.1⟩

set_option maxRecDepth 100000 in
set_option maxHeartbeats 3200000 in
theorem mb_z_l (t m nb : Int) (l : List (Int × B4)) (v : Value) (base : Nat) (w : World) (ho : w.ownsRow base 137 5 v l.length (blC l)) (hm0 : 0 ≤ m)
    (ht : 1 ≤ t ∧ t ≤ 999999999) (hm : m ≤ 1073741824) (hnb : 1 ≤ nb ∧ nb ≤ 16) (h0 : (l.length : Int) ≠ nb) :
    Calls Tryz.prog 108 #[.agg #[.int .i64 0, .int .i64 t, .int .i64 m, .int .i64 nb, v]] w fun e w' => e = .returned (.bool false) ∧ Fr [] w w' := by
  obtain ⟨ao, cap, hsh⟩ := own_shape ho
  subst hsh
  obtain ⟨bx, hbx⟩ : ∃ bx, w.heap.size = bx := ⟨_, rfl⟩
  obtain ⟨n, hn⟩ : ∃ n, l.length = n := ⟨_, rfl⟩
  obtain ⟨w0, hw0⟩ : ∃ w0, w.alloc (.cells #[.int .i64 0, .int .i64 t, .int .i64 m, .int .i64 nb, .slice ao n cap] 135) = w0 := ⟨_, rfl⟩
  have b0 : w0.heap[bx]? = some (.cells #[.int .i64 0, .int .i64 t, .int .i64 m, .int .i64 nb, .slice ao n cap] 135 (0, 0)) := by rw [← hw0, ← hbx]; exact heap_alloc_new w _
  have F0 : Fr [] w w0 := by rw [← hw0]; exact (Fr.refl _ _).alloc _
  have e0 : w0.cell? ⟨bx, 0, none⟩ = some (.int .i64 0) := by rw [cell_of b0]; rfl
  have e1 : w0.cell? ⟨bx, 1, none⟩ = some (.int .i64 t) := by rw [cell_of b0]; rfl
  have e2 : w0.cell? ⟨bx, 2, none⟩ = some (.int .i64 m) := by rw [cell_of b0]; rfl
  have e3 : w0.cell? ⟨bx, 3, none⟩ = some (.int .i64 nb) := by rw [cell_of b0]; rfl
  have e4 : w0.cell? ⟨bx, 4, none⟩ = some (.slice ao n cap) := by rw [cell_of b0]; rfl
  have HB : Hid (w0.heap[bx]? = some (.cells #[.int .i64 0, .int .i64 t, .int .i64 m, .int .i64 nb, .slice ao n cap] 135 (0, 0)) ∧ Fr [] w w0 ∧ w.ownsRow base 137 5 (.slice ao l.length cap) l.length (blC l) ∧ l.length = n) := ⟨b0, F0, ho, hn⟩
  have HG1 : Hid (∀ W, Calls Tryz.prog 131 #[.int .i64 t] W fun e w' => e = .returned (.bool true) ∧ w' = W) := fun W => by
    have := isGuid_any t W
    rw [show (decide (1 ≤ t) && decide (t ≤ 999999999)) = true by simp; omega] at this
    exact this
  have tm1 : (0 : Int) ≤ m := hm0
  have tft : ((0 : Int) == t) = false := by simp; omega
  have tm2 : m ≤ 1073741824 := hm
  have tn1 : ¬ nb < 1 := by omega
  have tn2 : ¬ (16 : Int) < nb := by omega
  rw [hn] at h0
  have tn3 : ((n : Int) != nb) = true := by simpa using h0
  clear h0
  rw [hn] at ho ⊢
  have hw0' := hw0
  clear hw0 ho b0 F0
  go_enter Tryz.func108, Tryz.ntmps108
  go_wp2_with (go_at_call 131; refine (HG1.out _).mono ?_; rintro e w' ⟨rfl, hw'⟩; have hw' := hw'.symm; subst hw')
  go_ret
  exact ⟨rfl, HB.out.2.1⟩

set_option maxRecDepth 100000 in
set_option maxHeartbeats 3200000 in
theorem mb_z_r (t m nb : Int) (l : List (Int × B4)) (v : Value) (base : Nat) (w : World) (ho : w.ownsRow base 137 5 v l.length (blC l)) (hl : l.length ≤ 255) (hm0 : 0 ≤ m)
    (ht : 1 ≤ t ∧ t ≤ 999999999) (hm : m ≤ 1073741824) (hnb : 1 ≤ nb ∧ nb ≤ 16) (h0 : (l.length : Int) = nb) (hxb : ∀ x ∈ l, 0 ≤ x.1 ∧ x.1 < 256) (hnr : ¬ Rises nb l) :
    Calls Tryz.prog 108 #[.agg #[.int .i64 0, .int .i64 t, .int .i64 m, .int .i64 nb, v]] w fun e w' => e = .returned (.bool false) ∧ Fr [] w w' := by
  obtain ⟨ao, cap, hsh⟩ := own_shape ho
  subst hsh
  obtain ⟨bx, hbx⟩ : ∃ bx, w.heap.size = bx := ⟨_, rfl⟩
  obtain ⟨n, hn⟩ : ∃ n, l.length = n := ⟨_, rfl⟩
  rw [hn] at hl
  obtain ⟨w0, hw0⟩ : ∃ w0, w.alloc (.cells #[.int .i64 0, .int .i64 t, .int .i64 m, .int .i64 nb, .slice ao n cap] 135) = w0 := ⟨_, rfl⟩
  have b0 : w0.heap[bx]? = some (.cells #[.int .i64 0, .int .i64 t, .int .i64 m, .int .i64 nb, .slice ao n cap] 135 (0, 0)) := by rw [← hw0, ← hbx]; exact heap_alloc_new w _
  have F0 : Fr [] w w0 := by rw [← hw0]; exact (Fr.refl _ _).alloc _
  have e0 : w0.cell? ⟨bx, 0, none⟩ = some (.int .i64 0) := by rw [cell_of b0]; rfl
  have e1 : w0.cell? ⟨bx, 1, none⟩ = some (.int .i64 t) := by rw [cell_of b0]; rfl
  have e2 : w0.cell? ⟨bx, 2, none⟩ = some (.int .i64 m) := by rw [cell_of b0]; rfl
  have e3 : w0.cell? ⟨bx, 3, none⟩ = some (.int .i64 nb) := by rw [cell_of b0]; rfl
  have e4 : w0.cell? ⟨bx, 4, none⟩ = some (.slice ao n cap) := by rw [cell_of b0]; rfl
  have HB : Hid (w0.heap[bx]? = some (.cells #[.int .i64 0, .int .i64 t, .int .i64 m, .int .i64 nb, .slice ao n cap] 135 (0, 0)) ∧ Fr [] w w0 ∧ w.ownsRow base 137 5 (.slice ao l.length cap) l.length (blC l) ∧ l.length = n) := ⟨b0, F0, ho, hn⟩
  have HG1 : Hid (∀ W, Calls Tryz.prog 131 #[.int .i64 t] W fun e w' => e = .returned (.bool true) ∧ w' = W) := fun W => by
    have := isGuid_any t W
    rw [show (decide (1 ≤ t) && decide (t ≤ 999999999)) = true by simp; omega] at this
    exact this
  have tm1 : (0 : Int) ≤ m := hm0
  have tft : ((0 : Int) == t) = false := by simp; omega
  have tm2 : m ≤ 1073741824 := hm
  have tn1 : ¬ nb < 1 := by omega
  have tn2 : ¬ (16 : Int) < nb := by omega
  rw [hn] at h0
  have tn3 : ((n : Int) != nb) = false := by simpa using h0
  have HXB : Hid (∀ x ∈ l, 0 ≤ x.1 ∧ x.1 < 256) := hxb
  have HNR : Hid (¬ Rises nb l) := hnr
  clear h0 hxb hnr
  rw [hn] at ho ⊢
  have hw0' := hw0
  clear hw0 ho b0 F0
  go_enter Tryz.func108, Tryz.ntmps108
  go_wp2_with (go_at_call 131; refine (HG1.out _).mono ?_; rintro e w' ⟨rfl, hw'⟩; have hw' := hw'.symm; subst hw')
  clear tm1 tm2 tn1 tn2 tn3
  go_loopw [5, 67] (fun ls i wr => ∃ k : Nat, k ≤ n ∧ i = .int .i64 k ∧ ls = .int .i64 (least l k) ∧ (∀ j (h : j < l.length), j < k → least l j ≤ l[j].1 ∧ l[j].1 < nb) ∧ Hid (Fr [] w0 wr)) (fun _ i _ => n - (intOf i).toNat)
  case atStart => exact ⟨0, Nat.zero_le _, rfl, rfl, fun j _ h => absurd h (Nat.not_lt_zero _), Fr.refl _ _⟩
  case round =>
    obtain ⟨k, hk, rfl, rfl, hpf, HK⟩ := hrel
    obtain ⟨W3, hW3⟩ : ∃ W3, W3 = wr := ⟨_, rfl⟩
    subst hW3
    clear e0 e1 e2 e3 e4 hw0'
    have HPF : Hid (∀ j (h : j < l.length), j < k → least l j ≤ l[j].1 ∧ l[j].1 < nb) := hpf
    clear hpf
    by_cases hlt : k < n
    · have hltz : (k : Int) < (n : Int) := by omega
      have hll : k < l.length := by rw [HB.out.2.2.2]; exact hlt
      have hor := own_fr' HB.out.2.2.1 (HB.out.2.1.tr HK.out)
      obtain ⟨lg, hlg, hc9, hcc⟩ := own_addr' hor (by omega)
      subst hlg
      have hb5 := blC_get l k hll
      obtain ⟨x, hx⟩ : ∃ x, l[k] = x := ⟨_, rfl⟩
      rw [hx] at hb5
      have d0 : W3.cell? ⟨lg, k * 5, none⟩ = some (.int .i64 x.1) := by rw [hcc _ (by omega)]; exact hb5.1
      have d1 : W3.cell? ⟨lg, k * 5 + 1, none⟩ = some (.int .u8 (x.2.a.toNat : Int)) := by rw [hcc _ (by omega)]; exact hb5.2.1
      have d2 : W3.cell? ⟨lg, k * 5 + 2, none⟩ = some (.int .u8 (x.2.b.toNat : Int)) := by rw [hcc _ (by omega)]; exact hb5.2.2.1
      have d3 : W3.cell? ⟨lg, k * 5 + 3, none⟩ = some (.int .u8 (x.2.c.toNat : Int)) := by rw [hcc _ (by omega)]; exact hb5.2.2.2.1
      have d4 : W3.cell? ⟨lg, k * 5 + 4, none⟩ = some (.int .u8 (x.2.d.toNat : Int)) := by rw [hcc _ (by omega)]; exact hb5.2.2.2.2
      have x3 : W3.cell? ⟨bx, 3, none⟩ = some (.int .i64 nb) := by
        have hh : W3.heap[bx]? = _ := (HK.out.block bx (Array.getElem?_eq_some_iff.1 HB.out.1).1 (by simp)).trans HB.out.1
        rw [cell_of hh]
        rfl
      have lbx : bx < W3.heap.size := World.block_lt_of_cell? _ _ x3
      have hsx : least l (k + 1) = x.1 + 1 := by rw [least_succ l k hll, hx]
      obtain ⟨z, hz⟩ : ∃ z, least l k = z := ⟨_, rfl⟩
      have HXX : Hid (l[k] = x ∧ least l k = z) := ⟨hx, hz⟩
      rw [hz]
      have HSX : Hid (least l (k + 1) = x.1 + 1) := hsx
      have hxb := HXB.out x (by rw [← hx]; exact List.getElem_mem _)
      have e5 : IntKind.i64.wrap (x.1 + 1) = x.1 + 1 := wrap_fit' (by omega) (by omega)
      clear hcc hb5 hx hor hsx hz
      by_cases r1 : x.1 < z
      · go_wp2
        go_ret
        exact ⟨rfl, (HB.out.2.1.tr HK.out).alloc _⟩
      · by_cases r2 : nb ≤ x.1
        · go_wp2
          go_ret
          exact ⟨rfl, (HB.out.2.1.tr HK.out).alloc _⟩
        · go_wp2
          go_roundw
          case rel =>
            refine ⟨k + 1, by omega, by go_num, by rw [HSX.out], fun j hj hjk => ?_, HK.out.alloc _⟩
            rcases Nat.lt_succ_iff_lt_or_eq.1 hjk with h1 | h1
            · exact HPF.out j hj h1
            · subst h1
              rw [HXX.out.1, HXX.out.2]
              omega
          case measure => simp [intOf]; omega
    · exact absurd (fun j hj => HPF.out j hj (by have := HB.out.2.2.2; omega)) HNR.out

set_option maxRecDepth 100000 in
set_option maxHeartbeats 3200000 in
theorem mb_g_r (f : Int) (t m nb : Int) (l : List (Int × B4)) (v : Value) (base : Nat) (w : World) (ho : w.ownsRow base 137 5 v l.length (blC l)) (hl : l.length ≤ 255) (hm0 : 0 ≤ m)
    (hf : 1 ≤ f ∧ f ≤ 999999999) (ht : 1 ≤ t ∧ t ≤ 999999999) (hft : f ≠ t) (hm : m ≤ 1073741824) (hnb : 1 ≤ nb ∧ nb ≤ 16) (hxb : ∀ x ∈ l, 0 ≤ x.1 ∧ x.1 < 256) (hnr : ¬ Rises nb l) :
    Calls Tryz.prog 108 #[.agg #[.int .i64 f, .int .i64 t, .int .i64 m, .int .i64 nb, v]] w fun e w' => e = .returned (.bool false) ∧ Fr [] w w' := by
  obtain ⟨ao, cap, hsh⟩ := own_shape ho
  subst hsh
  obtain ⟨bx, hbx⟩ : ∃ bx, w.heap.size = bx := ⟨_, rfl⟩
  obtain ⟨n, hn⟩ : ∃ n, l.length = n := ⟨_, rfl⟩
  rw [hn] at hl
  obtain ⟨w0, hw0⟩ : ∃ w0, w.alloc (.cells #[.int .i64 f, .int .i64 t, .int .i64 m, .int .i64 nb, .slice ao n cap] 135) = w0 := ⟨_, rfl⟩
  have b0 : w0.heap[bx]? = some (.cells #[.int .i64 f, .int .i64 t, .int .i64 m, .int .i64 nb, .slice ao n cap] 135 (0, 0)) := by rw [← hw0, ← hbx]; exact heap_alloc_new w _
  have F0 : Fr [] w w0 := by rw [← hw0]; exact (Fr.refl _ _).alloc _
  have e0 : w0.cell? ⟨bx, 0, none⟩ = some (.int .i64 f) := by rw [cell_of b0]; rfl
  have e1 : w0.cell? ⟨bx, 1, none⟩ = some (.int .i64 t) := by rw [cell_of b0]; rfl
  have e2 : w0.cell? ⟨bx, 2, none⟩ = some (.int .i64 m) := by rw [cell_of b0]; rfl
  have e3 : w0.cell? ⟨bx, 3, none⟩ = some (.int .i64 nb) := by rw [cell_of b0]; rfl
  have e4 : w0.cell? ⟨bx, 4, none⟩ = some (.slice ao n cap) := by rw [cell_of b0]; rfl
  have HB : Hid (w0.heap[bx]? = some (.cells #[.int .i64 f, .int .i64 t, .int .i64 m, .int .i64 nb, .slice ao n cap] 135 (0, 0)) ∧ Fr [] w w0 ∧ w.ownsRow base 137 5 (.slice ao l.length cap) l.length (blC l) ∧ l.length = n) := ⟨b0, F0, ho, hn⟩
  have HG1 : Hid (∀ W, Calls Tryz.prog 131 #[.int .i64 t] W fun e w' => e = .returned (.bool true) ∧ w' = W) := fun W => by
    have := isGuid_any t W
    rw [show (decide (1 ≤ t) && decide (t ≤ 999999999)) = true by simp; omega] at this
    exact this
  have HG0 : Hid (∀ W, Calls Tryz.prog 131 #[.int .i64 f] W fun e w' => e = .returned (.bool true) ∧ w' = W) := fun W => by
    have := isGuid_any f W
    rw [show (decide (1 ≤ f) && decide (f ≤ 999999999)) = true by simp; omega] at this
    exact this
  have tf0 : (f == 0) = false := by simp; omega
  have tm1 : (0 : Int) ≤ m := hm0
  have tft : (f == t) = false := by simpa using hft
  have tm2 : m ≤ 1073741824 := hm
  have tn1 : ¬ nb < 1 := by omega
  have tn2 : ¬ (16 : Int) < nb := by omega
  have HXB : Hid (∀ x ∈ l, 0 ≤ x.1 ∧ x.1 < 256) := hxb
  have HNR : Hid (¬ Rises nb l) := hnr
  clear hxb hnr
  rw [hn] at ho ⊢
  have hw0' := hw0
  clear hw0 ho b0 F0
  go_enter Tryz.func108, Tryz.ntmps108
  go_wp2_with (first
    | (go_at_call_of 131 (Value.int .i64 f); refine (HG0.out _).mono ?_; rintro e w' ⟨rfl, hw'⟩; have hw' := hw'.symm; subst hw')
    | (go_at_call_of 131 (Value.int .i64 t); refine (HG1.out _).mono ?_; rintro e w' ⟨rfl, hw'⟩; have hw' := hw'.symm; subst hw'))
  clear tm1 tm2 tn1 tn2 tft
  go_loopw [5, 67] (fun ls i wr => ∃ k : Nat, k ≤ n ∧ i = .int .i64 k ∧ ls = .int .i64 (least l k) ∧ (∀ j (h : j < l.length), j < k → least l j ≤ l[j].1 ∧ l[j].1 < nb) ∧ Hid (Fr [] w0 wr)) (fun _ i _ => n - (intOf i).toNat)
  case atStart => exact ⟨0, Nat.zero_le _, rfl, rfl, fun j _ h => absurd h (Nat.not_lt_zero _), Fr.refl _ _⟩
  case round =>
    obtain ⟨k, hk, rfl, rfl, hpf, HK⟩ := hrel
    obtain ⟨W3, hW3⟩ : ∃ W3, W3 = wr := ⟨_, rfl⟩
    subst hW3
    clear e0 e1 e2 e3 e4 hw0'
    have HPF : Hid (∀ j (h : j < l.length), j < k → least l j ≤ l[j].1 ∧ l[j].1 < nb) := hpf
    clear hpf
    by_cases hlt : k < n
    · have hltz : (k : Int) < (n : Int) := by omega
      have hll : k < l.length := by rw [HB.out.2.2.2]; exact hlt
      have hor := own_fr' HB.out.2.2.1 (HB.out.2.1.tr HK.out)
      obtain ⟨lg, hlg, hc9, hcc⟩ := own_addr' hor (by omega)
      subst hlg
      have hb5 := blC_get l k hll
      obtain ⟨x, hx⟩ : ∃ x, l[k] = x := ⟨_, rfl⟩
      rw [hx] at hb5
      have d0 : W3.cell? ⟨lg, k * 5, none⟩ = some (.int .i64 x.1) := by rw [hcc _ (by omega)]; exact hb5.1
      have d1 : W3.cell? ⟨lg, k * 5 + 1, none⟩ = some (.int .u8 (x.2.a.toNat : Int)) := by rw [hcc _ (by omega)]; exact hb5.2.1
      have d2 : W3.cell? ⟨lg, k * 5 + 2, none⟩ = some (.int .u8 (x.2.b.toNat : Int)) := by rw [hcc _ (by omega)]; exact hb5.2.2.1
      have d3 : W3.cell? ⟨lg, k * 5 + 3, none⟩ = some (.int .u8 (x.2.c.toNat : Int)) := by rw [hcc _ (by omega)]; exact hb5.2.2.2.1
      have d4 : W3.cell? ⟨lg, k * 5 + 4, none⟩ = some (.int .u8 (x.2.d.toNat : Int)) := by rw [hcc _ (by omega)]; exact hb5.2.2.2.2
      have x3 : W3.cell? ⟨bx, 3, none⟩ = some (.int .i64 nb) := by
        have hh : W3.heap[bx]? = _ := (HK.out.block bx (Array.getElem?_eq_some_iff.1 HB.out.1).1 (by simp)).trans HB.out.1
        rw [cell_of hh]
        rfl
      have lbx : bx < W3.heap.size := World.block_lt_of_cell? _ _ x3
      have hsx : least l (k + 1) = x.1 + 1 := by rw [least_succ l k hll, hx]
      obtain ⟨z, hz⟩ : ∃ z, least l k = z := ⟨_, rfl⟩
      have HXX : Hid (l[k] = x ∧ least l k = z) := ⟨hx, hz⟩
      rw [hz]
      have HSX : Hid (least l (k + 1) = x.1 + 1) := hsx
      have hxb := HXB.out x (by rw [← hx]; exact List.getElem_mem _)
      have e5 : IntKind.i64.wrap (x.1 + 1) = x.1 + 1 := wrap_fit' (by omega) (by omega)
      clear hcc hb5 hx hor hsx hz
      by_cases r1 : x.1 < z
      · go_wp2
        go_ret
        exact ⟨rfl, (HB.out.2.1.tr HK.out).alloc _⟩
      · by_cases r2 : nb ≤ x.1
        · go_wp2
          go_ret
          exact ⟨rfl, (HB.out.2.1.tr HK.out).alloc _⟩
        · go_wp2
          go_roundw
          case rel =>
            refine ⟨k + 1, by omega, by go_num, by rw [HSX.out], fun j hj hjk => ?_, HK.out.alloc _⟩
            rcases Nat.lt_succ_iff_lt_or_eq.1 hjk with h1 | h1
            · exact HPF.out j hj h1
            · subst h1
              rw [HXX.out.1, HXX.out.2]
              omega
          case measure => simp [intOf]; omega
    · exact absurd (fun j hj => HPF.out j hj (by have := HB.out.2.2.2; omega)) HNR.out

/-- The numbers of a stream go together. -/
def MayB (f t m nb : Int) (l : List (Int × B4)) : Prop := (f = 0 ∨ (1 ≤ f ∧ f ≤ 999999999)) ∧ (1 ≤ t ∧ t ≤ 999999999) ∧ f ≠ t ∧ m ≤ 1073741824 ∧ (1 ≤ nb ∧ nb ≤ 16) ∧ (f = 0 → (l.length : Int) = nb) ∧ Rises nb l
theorem rises_len {nb : Int} {l : List (Int × B4)} (h : Rises nb l) : ∀ k, k ≤ l.length → (k : Int) ≤ least l k
  | 0, _ => Int.le_refl _
  | k + 1, hk => by
    have ih := rises_len h k (by omega)
    have := (h k (by omega)).1
    rw [least_succ l k (by omega)]
    omega
theorem rises_le {nb : Int} {l : List (Int × B4)} (h : Rises nb l) (h0 : 0 ≤ nb) : (l.length : Int) ≤ nb := by
  cases hl : l.length with
  | zero => omega
  | succ k =>
    have h1 := rises_len h k (by omega)
    have := h k (by omega)
    omega
theorem mayBe_any (f t m nb : Int) (l : List (Int × B4)) (v : Value) (base : Nat) (w : World) (ho : w.ownsRow base 137 5 v l.length (blC l)) (hl : l.length ≤ 255) (hm0 : 0 ≤ m) (hxb : ∀ x ∈ l, 0 ≤ x.1 ∧ x.1 < 256) (mb : Bool) (hmb : mb = true ↔ MayB f t m nb l) :
    Calls Tryz.prog 108 #[.agg #[.int .i64 f, .int .i64 t, .int .i64 m, .int .i64 nb, v]] w fun e w' => e = .returned (.bool mb) ∧ Fr [] w w' := by
  cases mb with
  | true =>
    obtain ⟨h1, h2, h3, h4, h5, h6, h7⟩ := hmb.1 rfl
    have := rises_le h7 (by omega)
    exact mayBe_ok f t m nb l v base w ho (by omega) h1 h2 h3 ⟨hm0, h4⟩ h5 h6 h7
  | false =>
    have hno : ¬ MayB f t m nb l := fun h => by have := hmb.2 h; cases this
    by_cases hf0 : f = 0
    · subst hf0
      by_cases ht : 1 ≤ t ∧ t ≤ 999999999
      · by_cases hm : m ≤ 1073741824
        · by_cases n1 : nb < 1
          · exact mb_z_n1 t m nb l v base w ho hm0 ht hm n1
          · by_cases n2 : 16 < nb
            · exact mb_z_n2 t m nb l v base w ho hm0 ht hm n2
            · by_cases h0 : (l.length : Int) = nb
              · exact mb_z_r t m nb l v base w ho hl hm0 ht hm ⟨by omega, by omega⟩ h0 hxb (fun hr => hno ⟨Or.inl rfl, ht, by omega, hm, ⟨by omega, by omega⟩, fun _ => h0, hr⟩)
              · exact mb_z_l t m nb l v base w ho hm0 ht hm ⟨by omega, by omega⟩ h0
        · exact mb_z_m t m nb l v base w ho hm0 ht (by omega)
      · exact mb_z_t t m nb l v base w ho hm0 ht
    · by_cases hf : 1 ≤ f ∧ f ≤ 999999999
      · by_cases ht : 1 ≤ t ∧ t ≤ 999999999
        · by_cases hft : f = t
          · exact mb_ft f t m nb l v base w ho hm0 hf ht hft
          · by_cases hm : m ≤ 1073741824
            · by_cases n1 : nb < 1
              · exact mb_g_n1 f t m nb l v base w ho hm0 hf ht hft hm n1
              · by_cases n2 : 16 < nb
                · exact mb_g_n2 f t m nb l v base w ho hm0 hf ht hft hm n2
                · exact mb_g_r f t m nb l v base w ho hl hm0 hf ht hft hm ⟨by omega, by omega⟩ hxb (fun hr => hno ⟨Or.inr hf, ht, hft, hm, ⟨by omega, by omega⟩, fun h => absurd h hf0, hr⟩)
            · exact mb_g_m f t m nb l v base w ho hm0 hf ht hft (by omega)
        · exact mb_g_t f t m nb l v base w ho hm0 hf ht
      · by_cases ht : 1 ≤ t ∧ t ≤ 999999999
        · exact mb_b f t m nb l v base w ho hm0 hf0 hf ht
        · exact mb_b_t f t m nb l v base w ho hm0 hf0 hf ht
end Go.Proofs.YthdhegmlknpllaaGreat
