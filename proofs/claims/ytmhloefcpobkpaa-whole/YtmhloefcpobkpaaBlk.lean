/-
  The walks of hasBlock (40), guidOf (42), Read (54), Write (19).
-/
import Derived.Test.YtmhloefcpobkpaaSt
namespace Go.Proofs.Ytmhloefcpobkpaa
open Go.RowKit Go.Maps Go.MuLone

theorem ret_bool {a b : Bool} (h : a = b) : Ending.returned (.bool a) = .returned (.bool b) := by rw [h]

set_option maxHeartbeats 400000 in
theorem hasBlock_any (B b : Nat) (q : Int) (s : Sto) (k : Int) (w : World) (h : Rep B w b q s) :
    Calls Try.prog 40 #[.pointer (some ⟨b, 0, none⟩), .int .i64 k] w fun e w' => e = .returned (.bool (decide (0 ≤ k) && decide (k < s.vol.length))) ∧ w' = w := by
  obtain ⟨c0, c2, c3, c4, c5, c6, c7, c8⟩ := h.cells
  obtain ⟨n, hn⟩ : ∃ n, s.vol.length = n := ⟨_, rfl⟩
  rw [hn] at c3 ⊢
  clear h hn c4 c6
  by_cases h1 : 0 ≤ k
  · rw [show decide (0 ≤ k) = true by simpa using h1]
    go_enter Try.func40, Try.ntmps40
    go_wp2
    go_ret
    exact ⟨by simp, rfl⟩
  · rw [show decide (0 ≤ k) = false by simpa using h1]
    go_enter Try.func40, Try.ntmps40
    go_wp2
    go_ret
    exact ⟨rfl, rfl⟩

theorem wrap_fit {x : Int} (h : In64 x) : IntKind.i64.wrap x = x := by obtain ⟨h1, h2⟩ := h; simp [IntKind.wrap, IntKind.bits, IntKind.signed]; omega
theorem wrap64_fit {x : Int} (h : In64 x) : wrap64 x = x := by obtain ⟨h1, h2⟩ := h; unfold wrap64; omega

def gu (s : Sto) (k : Int) : Int := s.id * 1000000 + k

set_option maxHeartbeats 400000 in
theorem guidOf_any (B b : Nat) (q : Int) (s : Sto) (k : Int) (w : World) (h : Rep B w b q s) (h1 : 1 ≤ s.id ∧ s.id ≤ 999) (h2 : 0 ≤ k ∧ k ≤ 2000000) :
    Calls Try.prog 42 #[.pointer (some ⟨b, 0, none⟩), .int .i64 k] w fun e w' => e = .returned (.int .i64 (gu s k)) ∧ w' = w := by
  obtain ⟨c0, c2, c3, c4, c5, c6, c7, c8⟩ := h.cells
  unfold gu
  obtain ⟨n, hn⟩ : ∃ n, s.id = n := ⟨_, rfl⟩
  rw [hn] at c2 h1 ⊢
  clear h hn c4 c6 c3
  have e1 : IntKind.i64.wrap (n * 1000000) = n * 1000000 := wrap_fit ⟨by omega, by omega⟩
  have e2 : IntKind.i64.wrap (n * 1000000 + k) = n * 1000000 + k := wrap_fit ⟨by omega, by omega⟩
  go_enter Try.func42, Try.ntmps42
  go_wp2
  go_ret
  exact ⟨by first | rfl | (simp; done) | simp [e1, e2], rfl⟩

theorem vol_at {B : Nat} {w : World} {b : Nat} {q : Int} {s : Sto} (h : Rep B w b q s) (k : Nat) (hk : k < s.vol.length) :
    w.cell? ⟨s.vb, k * 4, none⟩ = some (u8 s.vol[k].a) ∧ w.cell? ⟨s.vb, k * 4 + 1, none⟩ = some (u8 s.vol[k].b) ∧ w.cell? ⟨s.vb, k * 4 + 2, none⟩ = some (u8 s.vol[k].c) ∧ w.cell? ⟨s.vb, k * 4 + 3, none⟩ = some (u8 s.vol[k].d) := by
  have hg := volC_get s.vol k hk
  refine ⟨?_, ?_, ?_, ?_⟩ <;> rw [cell_of h.vol, List.getElem?_toArray]
  · exact hg.1
  · exact hg.2.1
  · exact hg.2.2.1
  · exact hg.2.2.2

theorem str_conv {w : World} {vb o : Nat} {x : B4} (h0 : w.cell? ⟨vb, o, none⟩ = some (u8 x.a)) (h1 : w.cell? ⟨vb, o + 1, none⟩ = some (u8 x.b)) (h2 : w.cell? ⟨vb, o + 2, none⟩ = some (u8 x.c)) (h3 : w.cell? ⟨vb, o + 3, none⟩ = some (u8 x.d)) :
    (convert 87 9 (.slice (some ⟨vb, o, none⟩) 4 4)).run Try.prog w = .ok x.str w := by
  have := run_convert_bytes_back (P := Try.prog) w 87 9 5 ⟨vb, o, none⟩ 4 x.list Try.underlying87 Try.underlying5 Try.underlying9 (by
    intro j hj
    have hj' : j < 4 := hj
    rcases (by omega : j = 0 ∨ j = 1 ∨ j = 2 ∨ j = 3) with rfl | rfl | rfl | rfl
    · exact h0
    · exact h1
    · exact h2
    · exact h3)
  exact this

theorem fr_lock (b : Nat) (s : Sto) (w : World) (v : Value) : Fr (foot b s) w (w.setCell ⟨b, 0, none⟩ v) := (Fr.refl _ _).setCell v (Or.inl (by simp [foot]))

set_option maxHeartbeats 800000 in
theorem read_ok (B b : Nat) (s : Sto) (k : Nat) (w : World) (h : Rep B w b 0 s) (hk : k < s.vol.length) :
    Calls Try.prog 54 #[.pointer (some ⟨b, 0, none⟩), .int .i64 k] w fun e w' => e = .returned (.tuple #[s.vol[k].str, .int .i64 0]) ∧ Rep B w' b 0 s ∧ Fr (foot b s) w w' := by
  have R1 := h.lock 1
  obtain ⟨w1, hw1⟩ : ∃ w1, w.setCell ⟨b, 0, none⟩ (.int .i32 1) = w1 := ⟨_, rfl⟩
  rw [hw1] at R1
  obtain ⟨x, hx⟩ : ∃ x, s.vol[k] = x := ⟨_, rfl⟩
  have hv := vol_at R1 k hk
  rw [hx] at hv ⊢
  have HC : Hid (∀ W, _) := fun W => hasBlock_any B b 1 s k W
  have HL := lock_free Try.muLib ⟨b, 0, none⟩ w h.cells.1 (h.frozen 0)
  have hcv := str_conv hv.1 hv.2.1 hv.2.2.1 hv.2.2.2
  have HF : Hid (Rep B w b 0 s ∧ w.setCell ⟨b, 0, none⟩ (.int .i32 1) = w1) := ⟨h, hw1⟩
  have HR1 : Hid (Rep B w1 b 1 s) := R1
  obtain ⟨n, hn⟩ : ∃ n, s.vol.length = n := ⟨_, rfl⟩
  obtain ⟨c0, c2, c3, c4, c5, c6, c7, c8⟩ := R1.cells
  have hb : (decide ((0 : Int) ≤ (k : Int)) && decide ((k : Int) < (s.vol.length : Int))) = true := by simp; omega
  clear h hw1 R1 c4 c6 hx
  rw [hn] at c3 hk
  go_enter_defers Try.func54, Try.ntmps54
  go_wp2_with (first
    | (go_at_call 38; refine HL.mono ?_; rintro e w' ⟨rfl, hw'⟩; rw [HF.out.2] at hw'; subst hw')
    | (go_at_call 40; refine (HC.out _ HR1.out).mono ?_; rintro e w' ⟨rfl, rfl⟩; rw [hb]))
  refine leaves_cons (f := 39) (args := #[.pointer (some ⟨b, 0, none⟩)]) (by simp) (by simp [go_sem]) ?_
  refine (unlock_deferred Try.muLib ⟨b, 0, none⟩ .returning _ HR1.out.cells.1 (HR1.out.frozen 0)).mono ?_
  rintro e u' w'' ⟨rfl, rfl, rfl⟩
  exact ⟨_, results_tmp2 rfl _ _ _, rfl, HR1.out.lock 0, by rw [← HF.out.2]; exact (fr_lock b s w _).setCell _ (Or.inl (by simp [foot]))⟩

theorem set4 : ∀ (l : List B4) (k : Nat) (x : B4), k < l.length → ((((volC l).set (k * 4) (u8 x.a)).set (k * 4 + 1) (u8 x.b)).set (k * 4 + 2) (u8 x.c)).set (k * 4 + 3) (u8 x.d) = volC (l.set k x)
  | [], k, _, h => by simp at h
  | y :: r, 0, x, _ => by simp [volC, B4.cells]
  | y :: r, k + 1, x, h => by
    have ih := set4 r k x (by simpa using h)
    have e : (k + 1) * 4 = k * 4 + 4 := by omega
    simp only [volC, List.flatMap_cons, List.set_cons_succ, B4.cells, List.cons_append, List.nil_append, e] at ih ⊢
    simpa [List.set_cons_succ] using ih

def Sto.write (s : Sto) (k : Nat) (x : B4) : Sto := { s with vol := s.vol.set k x }
theorem foot_write (b : Nat) (s : Sto) (k : Nat) (x : B4) : foot b (s.write k x) = foot b s := rfl

theorem Rep.write {B : Nat} {w : World} {b : Nat} {q : Int} {s : Sto} (h : Rep B w b q s) (k : Nat) (x : B4) (hk : k < s.vol.length) : Rep B (w.setCells s.vb (k * 4) x.cells) b q (s.write k x) := by
  obtain ⟨a1, a2, a3, a4, a5⟩ := h.apart
  have ho : ∀ j, j ≠ s.vb → (w.setCells s.vb (k * 4) x.cells).heap[j]? = w.heap[j]? := fun j hj => by
    simp only [B4.cells, World.setCells]
    rw [heap_setCell_other _ _ _ _ hj, heap_setCell_other _ _ _ _ hj, heap_setCell_other _ _ _ _ hj, heap_setCell_other _ _ _ _ hj]
  refine ⟨?_, ?_, ?_, ?_, ?_, h.hb, h.hvb, h.hmb⟩
  · rw [ho b (Ne.symm a1), h.blk]; simp [Sto.blk, Sto.write]
  · show (w.setCells s.vb (k * 4) x.cells).heap[s.vb]? = some (.cells (volC (s.vol.set k x)).toArray 89 (0, 0))
    have h1 := heap_setCell_same w s.vb (k * 4) _ _ (u8 x.a) h.vol
    have h2 := heap_setCell_same _ s.vb (k * 4 + 1) _ _ (u8 x.b) h1
    have h3 := heap_setCell_same _ s.vb (k * 4 + 1 + 1) _ _ (u8 x.c) h2
    have h4 := heap_setCell_same _ s.vb (k * 4 + 1 + 1 + 1) _ _ (u8 x.d) h3
    simp only [B4.cells, World.setCells]
    rw [h4, ← set4 s.vol k x hk]
    simp
  · exact own_of_block h.ss (fun j hj => ho j (a4 j hj).2.1)
  · exact h.th.of_block (ho s.mb a3)
  · exact own_of_block h.ms (fun j hj => ho j (a5 j hj).2.1)

theorem fr_cells {F : List Nat} {w : World} {vb : Nat} (hv : vb ∈ F) : ∀ (l : List Value) (o : Nat) (w1 : World), Fr F w w1 → Fr F w (w1.setCells vb o l)
  | [], _, _, h => h
  | v :: r, o, _, h => fr_cells hv r (o + 1) _ (h.setCell v (Or.inl hv))

set_option maxHeartbeats 800000 in
theorem write_ok (B b : Nat) (s : Sto) (k : Nat) (x : B4) (w : World) (h : Rep B w b 0 s) (hk : k < s.vol.length) :
    Calls Try.prog 19 #[.pointer (some ⟨b, 0, none⟩), .int .i64 k, x.str] w fun e w' => e = .returned (.int .i64 0) ∧ Rep B w' b 0 (s.write k x) ∧ Fr (foot b s) w w' := by
  have R1 := h.lock 1
  obtain ⟨w1, hw1⟩ : ∃ w1, w.setCell ⟨b, 0, none⟩ (.int .i32 1) = w1 := ⟨_, rfl⟩
  rw [hw1] at R1
  have hv := vol_at R1 k hk
  have HC : Hid (∀ W, _) := fun W => hasBlock_any B b 1 s k W
  have HL := lock_free Try.muLib ⟨b, 0, none⟩ w h.cells.1 (h.frozen 0)
  have hcp : ∀ ty, (Builtin.copy_ #[87, 9] ty #[.slice (some ⟨s.vb, k * 4, none⟩) 4 4, x.str]).run Try.prog w1 = .ok (goInt 4) (w1.setCells s.vb (k * 4) x.cells) := fun ty => by
    have e := run_copy_string (P := Try.prog) w1 87 9 ty 5 s.vb (k * 4) 4 4 ⟨#[x.a, x.b, x.c, x.d]⟩ Try.underlying87 (fun w => Try.sizeOf5 w) (by show 4 ≤ 4; omega) (by
      intro j hj
      have hj' : j < 4 := hj
      rcases (by omega : j = 0 ∨ j = 1 ∨ j = 2 ∨ j = 3) with rfl | rfl | rfl | rfl
      · rw [Nat.add_zero, hv.1]; rfl
      · rw [hv.2.1]; rfl
      · rw [hv.2.2.1]; rfl
      · rw [hv.2.2.2]; rfl) (fun j _ => froz_of R1.vol _)
    exact e
  have HF : Hid (Rep B w b 0 s ∧ w.setCell ⟨b, 0, none⟩ (.int .i32 1) = w1) := ⟨h, hw1⟩
  have HR1 : Hid (Rep B w1 b 1 s) := R1
  have HR2 : Hid (Rep B (w1.setCells s.vb (k * 4) x.cells) b 1 (s.write k x)) := R1.write k x hk
  obtain ⟨n, hn⟩ : ∃ n, s.vol.length = n := ⟨_, rfl⟩
  obtain ⟨c0, c2, c3, c4, c5, c6, c7, c8⟩ := R1.cells
  have hb : (decide ((0 : Int) ≤ (k : Int)) && decide ((k : Int) < (s.vol.length : Int))) = true := by simp; omega
  clear h hw1 R1 c4 c6
  rw [hn] at c3 hk
  have hx : x.str = .string ⟨#[x.a, x.b, x.c, x.d]⟩ := rfl
  rw [hx] at hcp ⊢
  go_enter_defers Try.func19, Try.ntmps19
  go_wp2_with (first
    | (go_at_call 38; refine HL.mono ?_; rintro e w' ⟨rfl, hw'⟩; rw [HF.out.2] at hw'; subst hw')
    | (go_at_call 40; refine (HC.out _ HR1.out).mono ?_; rintro e w' ⟨rfl, rfl⟩; rw [hb]))
  refine leaves_cons (f := 39) (args := #[.pointer (some ⟨b, 0, none⟩)]) (by simp) (by simp [go_sem]) ?_
  refine (unlock_deferred Try.muLib ⟨b, 0, none⟩ .returning _ HR2.out.cells.1 (HR2.out.frozen 0)).mono ?_
  rintro e u' w'' ⟨rfl, rfl, rfl⟩
  exact ⟨_, results_tmp rfl _ _ _, rfl, HR2.out.lock 0, by rw [← HF.out.2]; exact (fr_cells (by simp [foot]) _ _ _ (fr_lock b s w _)).setCell _ (Or.inl (by simp [foot]))⟩

set_option maxHeartbeats 800000 in
theorem write_bad (B b : Nat) (s : Sto) (k : Int) (t : ByteArray) (w : World) (h : Rep B w b 0 s) (hk : (decide (0 ≤ k) && decide (k < s.vol.length)) = false ∨ ((t.size : Int) != 4) = true) :
    Calls Try.prog 19 #[.pointer (some ⟨b, 0, none⟩), .int .i64 k, .string t] w fun e w' => e = .returned (.int .i64 1) ∧ Rep B w' b 0 s ∧ Fr (foot b s) w w' := by
  have R1 := h.lock 1
  obtain ⟨w1, hw1⟩ : ∃ w1, w.setCell ⟨b, 0, none⟩ (.int .i32 1) = w1 := ⟨_, rfl⟩
  rw [hw1] at R1
  have HC : Hid (∀ W, _) := fun W => hasBlock_any B b 1 s k W
  have HL := lock_free Try.muLib ⟨b, 0, none⟩ w h.cells.1 (h.frozen 0)
  have HF : Hid (Rep B w b 0 s ∧ w.setCell ⟨b, 0, none⟩ (.int .i32 1) = w1) := ⟨h, hw1⟩
  have HR1 : Hid (Rep B w1 b 1 s) := R1
  clear h hw1 R1
  cases hb : (decide (0 ≤ k) && decide (k < (s.vol.length : Int)))
  · go_enter_defers Try.func19, Try.ntmps19
    go_wp2_with (first
      | (go_at_call 38; refine HL.mono ?_; rintro e w' ⟨rfl, hw'⟩; rw [HF.out.2] at hw'; subst hw')
      | (go_at_call 40; refine (HC.out _ HR1.out).mono ?_; rintro e w' ⟨rfl, rfl⟩; rw [hb]))
    refine leaves_cons (f := 39) (args := #[.pointer (some ⟨b, 0, none⟩)]) (by simp) (by simp [go_sem]) ?_
    refine (unlock_deferred Try.muLib ⟨b, 0, none⟩ .returning _ HR1.out.cells.1 (HR1.out.frozen 0)).mono ?_
    rintro e u' w'' ⟨rfl, rfl, rfl⟩
    exact ⟨_, results_tmp rfl _ _ _, rfl, HR1.out.lock 0, by rw [← HF.out.2]; exact (fr_lock b s w _).setCell _ (Or.inl (by simp [foot]))⟩
  · have hk2 : ((t.size : Int) != 4) = true := by
      rcases hk with h | h
      · rw [hb] at h; cases h
      · exact h
    clear hk
    go_enter_defers Try.func19, Try.ntmps19
    go_wp2_with (first
      | (go_at_call 38; refine HL.mono ?_; rintro e w' ⟨rfl, hw'⟩; rw [HF.out.2] at hw'; subst hw')
      | (go_at_call 40; refine (HC.out _ HR1.out).mono ?_; rintro e w' ⟨rfl, rfl⟩; rw [hb]))
    refine leaves_cons (f := 39) (args := #[.pointer (some ⟨b, 0, none⟩)]) (by simp) (by simp [go_sem]) ?_
    refine (unlock_deferred Try.muLib ⟨b, 0, none⟩ .returning _ HR1.out.cells.1 (HR1.out.frozen 0)).mono ?_
    rintro e u' w'' ⟨rfl, rfl, rfl⟩
    exact ⟨_, results_tmp rfl _ _ _, rfl, HR1.out.lock 0, by rw [← HF.out.2]; exact (fr_lock b s w _).setCell _ (Or.inl (by simp [foot]))⟩
end Go.Proofs.Ytmhloefcpobkpaa
