import Derived.Test.YthdhegmlknpllaaGreatM02
import Derived.Deep.RegionHeld3
namespace Go.Proofs.YthdhegmlknpllaaGreat
open Go.RowKit Go.Maps Go.MuLone
theorem ret_bool {a b : Bool} (h : a = b) : Ending.returned (.bool a) = .returned (.bool b) := by rw [h]
set_option maxHeartbeats 400000 in
theorem hasBlock_any (B b : Nat) (q : Int) (s : Sto) (k : Int) (w : World) (h : Rep B w b q s) :
  Calls Tryz.prog 60 #[.pointer (some ⟨b, 0, none⟩), .int .i64 k] w fun e w' => e = .returned (.bool (decide (0 ≤ k) && decide (k < s.vol.length))) ∧ w' = w := by
 obtain ⟨c0, c2, c3, c4, c5, c6, c7, c8, c9⟩ := h.cells
 obtain ⟨n, hn⟩ : ∃ n, s.vol.length = n := ⟨_, rfl⟩
 rw [hn] at c3 ⊢
 clear h hn c4 c6 c9
 by_cases h1 : 0 ≤ k
 · rw [show decide (0 ≤ k) = true by simpa using h1]
   go_enter Tryz.func60, Tryz.ntmps60
   go_wp2
   go_ret
   exact ⟨by simp, rfl⟩
 · rw [show decide (0 ≤ k) = false by simpa using h1]
   go_enter Tryz.func60, Tryz.ntmps60
   go_wp2
   go_ret
   exact ⟨rfl, rfl⟩
theorem wrap_fit {x : Int} (h : In64 x) : IntKind.i64.wrap x = x := by obtain ⟨h1, h2⟩ := h; simp [IntKind.wrap, IntKind.bits, IntKind.signed]; omega
theorem wrap64_fit {x : Int} (h : In64 x) : wrap64 x = x := by obtain ⟨h1, h2⟩ := h; unfold wrap64; omega
def gu (s : Sto) (k : Int) : Int := s.id * 1000000 + k
set_option maxHeartbeats 400000 in
theorem guidOf_any (B b : Nat) (q : Int) (s : Sto) (k : Int) (w : World) (h : Rep B w b q s) (h1 : 1 ≤ s.id ∧ s.id ≤ 999) (h2 : 0 ≤ k ∧ k ≤ 2000000) :
  Calls Tryz.prog 62 #[.pointer (some ⟨b, 0, none⟩), .int .i64 k] w fun e w' => e = .returned (.int .i64 (gu s k)) ∧ w' = w := by
 obtain ⟨c0, c2, c3, c4, c5, c6, c7, c8, c9⟩ := h.cells
 unfold gu
 obtain ⟨n, hn⟩ : ∃ n, s.id = n := ⟨_, rfl⟩
 rw [hn] at c2 h1 ⊢
 clear h hn c4 c6 c9 c3
 have e1 : IntKind.i64.wrap (n * 1000000) = n * 1000000 := wrap_fit ⟨by omega, by omega⟩
 have e2 : IntKind.i64.wrap (n * 1000000 + k) = n * 1000000 + k := wrap_fit ⟨by omega, by omega⟩
 go_enter Tryz.func62, Tryz.ntmps62
 go_wp2
 go_ret
 exact ⟨by first | rfl | (simp; done) | simp [e1, e2], rfl⟩
theorem vol_at {B : Nat} {w : World} {b : Nat} {q : Int} {s : Sto} (h : Rep B w b q s) (k : Nat) (hk : k < s.vol.length) :
  w.cell? ⟨s.vb, k * 5, none⟩ = some (u8 s.vol[k].x.a) ∧ w.cell? ⟨s.vb, k * 5 + 1, none⟩ = some (u8 s.vol[k].x.b) ∧ w.cell? ⟨s.vb, k * 5 + 2, none⟩ = some (u8 s.vol[k].x.c) ∧ w.cell? ⟨s.vb, k * 5 + 3, none⟩ = some (u8 s.vol[k].x.d) ∧ w.cell? ⟨s.vb, k * 5 + 4, none⟩ = some (.int .i64 s.vol[k].n) := by
 have hg := volC_get s.vol k hk
 refine ⟨?_, ?_, ?_, ?_, ?_⟩ <;> rw [cell_of h.vol, List.getElem?_toArray]
 · exact hg.1
 · exact hg.2.1
 · exact hg.2.2.1
 · exact hg.2.2.2.1
 · exact hg.2.2.2.2
theorem fr_lock (b : Nat) (s : Sto) (w : World) (v : Value) : Fr (foot b s) w (w.setCell ⟨b, 0, none⟩ v) := (Fr.refl _ _).setCell v (Or.inl (by simp [foot]))
theorem Rep.lk {B : Nat} {w : World} {b : Nat} {z : Int} {s : Sto} (h : Rep B w b z s) : ∃ w1, w.setCell ⟨b, 0, none⟩ (.int .i32 1) = w1 ∧ Rep B w1 b 1 s := ⟨_, rfl, h.lock 1⟩
theorem lkF {w w1 : World} {b : Nat} {v : Value} (s : Sto) (h : w.setCell ⟨b, 0, none⟩ v = w1) : Fr (foot b s) w w1 := by rw [← h]; exact fr_lock b s w _
set_option maxHeartbeats 800000 in
theorem read_ok (B b : Nat) (s : Sto) (k : Nat) (w : World) (h : Rep B w b 0 s) (hk : k < s.vol.length) :
  Calls Tryz.prog 27 #[.pointer (some ⟨b, 0, none⟩), .int .i64 k] w fun e w' => e = .returned (.tuple #[s.vol[k].x.str, .int .i64 0]) ∧ Rep B w' b 0 s ∧ Fr (foot b s) w w' := by
 obtain ⟨w1, hw1, R1⟩ := h.lk
 obtain ⟨x, hx⟩ : ∃ x, s.vol[k].x = x := ⟨_, rfl⟩
 have hv := vol_at R1 k hk
 rw [hx] at hv ⊢
 have HC : Hid (∀ W, _) := fun W => hasBlock_any B b 1 s k W
 have HL := lock_free Tryz.muLib ⟨b, 0, none⟩ w h.cells.1 (h.frozen 0)
 have hcv := str_conv hv.1 hv.2.1 hv.2.2.1 hv.2.2.2.1
 have HF : Hid (Rep B w b 0 s ∧ w.setCell ⟨b, 0, none⟩ (.int .i32 1) = w1) := ⟨h, hw1⟩
 have HR1 : Hid (Rep B w1 b 1 s) := R1
 obtain ⟨n, hn⟩ : ∃ n, s.vol.length = n := ⟨_, rfl⟩
 obtain ⟨c0, c2, c3, c4, c5, c6, c7, c8, c9⟩ := R1.cells
 have hb : (decide ((0 : Int) ≤ (k : Int)) && decide ((k : Int) < (s.vol.length : Int))) = true := by simp; omega
 clear h hw1 R1 c4 c6 c9 hx
 rw [hn] at c3 hk
 go_enter_defers Tryz.func27, Tryz.ntmps27
 go_wp2_with (first
  | (go_at_call 23; refine HL.mono ?_; rintro e w' ⟨rfl, hw'⟩; rw [HF.out.2] at hw'; subst hw')
  | (go_at_call 60; refine (HC.out _ HR1.out).mono ?_; rintro e w' ⟨rfl, rfl⟩; rw [hb]))
 refine leaves_cons (f := 24) (args := #[.pointer (some ⟨b, 0, none⟩)]) (by simp) (by simp [go_sem]) ?_
 refine (unlock_deferred Tryz.muLib ⟨b, 0, none⟩ .returning _ HR1.out.cells.1 (HR1.out.frozen 0)).mono ?_
 rintro e u' w'' ⟨rfl, rfl, rfl⟩
 exact ⟨_, results_tmp2 rfl _ _ _, rfl, HR1.out.lock 0, by rw [← HF.out.2]; exact (fr_lock b s w _).setCell _ (Or.inl (by simp [foot]))⟩
theorem set5 : ∀ (l : List Ct) (k : Nat) (x : B4) (n : Int), k < l.length → (((((volC l).set (k * 5) (u8 x.a)).set (k * 5 + 1) (u8 x.b)).set (k * 5 + 2) (u8 x.c)).set (k * 5 + 3) (u8 x.d)).set (k * 5 + 4) (.int .i64 n) = volC (l.set k ⟨x, n⟩)
 | [], k, _, _, h => by simp at h
 | y :: r, 0, x, _, _ => by simp [volC, Ct.cells]
 | y :: r, k + 1, x, n, h => by
  have ih := set5 r k x n (by simpa using h)
  have e : (k + 1) * 5 = k * 5 + 5 := by omega
  simp only [volC, List.flatMap_cons, List.set_cons_succ, Ct.cells, List.cons_append, List.nil_append, e] at ih ⊢
  simpa [List.set_cons_succ] using ih
def Sto.write (s : Sto) (k : Nat) (x : B4) : Sto := { s with vol := s.vol.set k ⟨x, s.came⟩ }
theorem Rep.write {B : Nat} {w : World} {b : Nat} {q : Int} {s : Sto} (h : Rep B w b q s) (k : Nat) (x : B4) (hk : k < s.vol.length) : Rep B ((w.setCells s.vb (k * 5) x.cells).setCell ⟨s.vb, k * 5 + 4, none⟩ (.int .i64 s.came)) b q (s.write k x) := by
 obtain ⟨a1, a2, a3, a4, a5, a6⟩ := h.apart
 have ho : ∀ j, j ≠ s.vb → ((w.setCells s.vb (k * 5) x.cells).setCell ⟨s.vb, k * 5 + 4, none⟩ (.int .i64 s.came)).heap[j]? = w.heap[j]? := fun j hj => by
  simp only [B4.cells, World.setCells]
  rw [heap_setCell_other _ _ _ _ hj, heap_setCell_other _ _ _ _ hj, heap_setCell_other _ _ _ _ hj, heap_setCell_other _ _ _ _ hj, heap_setCell_other _ _ _ _ hj]
 refine ⟨?_, ?_, ?_, ?_, ?_, ?_, h.hb, h.hvb, h.hmb⟩
 · rw [ho b (Ne.symm a1), h.blk]; simp [Sto.blk, Sto.write]
 · show ((w.setCells s.vb (k * 5) x.cells).setCell ⟨s.vb, k * 5 + 4, none⟩ (.int .i64 s.came)).heap[s.vb]? = some (.cells (volC (s.vol.set k ⟨x, s.came⟩)).toArray 112 (0, 0))
   have h1 := heap_setCell_same w s.vb (k * 5) _ _ (u8 x.a) h.vol
   have h2 := heap_setCell_same _ s.vb (k * 5 + 1) _ _ (u8 x.b) h1
   have h3 := heap_setCell_same _ s.vb (k * 5 + 1 + 1) _ _ (u8 x.c) h2
   have h4 := heap_setCell_same _ s.vb (k * 5 + 1 + 1 + 1) _ _ (u8 x.d) h3
   have h5 := heap_setCell_same _ s.vb (k * 5 + 4) _ _ (.int .i64 s.came) h4
   simp only [B4.cells, World.setCells]
   rw [h5, ← set5 s.vol k x s.came hk]
   simp
 · exact own_of_block h.ss (fun j hj => ho j (a4 j hj).2.1)
 · exact h.th.of_block (ho s.mb a3)
 · exact own_of_block h.ms (fun j hj => ho j (a5 j hj).2.1)
 · exact own_of_block h.lg (fun j hj => ho j (a6 j hj).2.1)
theorem fr_cells {F : List Nat} {w : World} {vb : Nat} (hv : vb ∈ F) : ∀ (l : List Value) (o : Nat) (w1 : World), Fr F w w1 → Fr F w (w1.setCells vb o l)
 | [], _, _, h => h
 | v :: r, o, _, h => fr_cells hv r (o + 1) _ (h.setCell v (Or.inl hv))
def wtext (k : Nat) (x : B4) : ByteArray := ⟨#[byt k]⟩ ++ ⟨#[x.a, x.b, x.c, x.d]⟩
theorem conv1 {w : World} {vb : Nat} {y : UInt8} (h0 : w.cell? ⟨vb, 0, none⟩ = some (u8 y)) : (convert 74 9 (.slice (some ⟨vb, 0, none⟩) 1 1)).run Tryz.prog w = .ok (.string ⟨#[y]⟩) w := by
 have := run_convert_bytes_back (P := Tryz.prog) w 74 9 5 ⟨vb, 0, none⟩ 1 [y] Tryz.underlying74 Tryz.underlying5 Tryz.underlying9 (by
  intro j hj
  have hj' : j < 1 := hj
  have : j = 0 := by omega
  subst this
  exact h0)
 exact this
set_option maxRecDepth 100000 in
set_option maxHeartbeats 1600000 in
theorem write_ok (B b : Nat) (s : Sto) (k : Nat) (x : B4) (w : World) (h : Rep B w b 0 s) (hk : k < s.vol.length) (hl : s.log.length ≤ 140000000000000) :
  Calls Tryz.prog 25 #[.pointer (some ⟨b, 0, none⟩), .int .i64 k, x.str] w fun e w' => e = .returned (.int .i64 0) ∧ ∃ lv, Rep B w' b 0 ((s.write k x).noted 87 (wtext k x) lv) ∧ Fr (foot b s) w w' ∧ (∀ j, lv.ownBlock = some j → s.lv.ownBlock = some j ∨ w.heap.size ≤ j) := by
 obtain ⟨w1, hw1, R1⟩ := h.lk
 have hv := vol_at R1 k hk
 have HC : Hid (∀ W, _) := fun W => hasBlock_any B b 1 s k W
 have HL := lock_free Tryz.muLib ⟨b, 0, none⟩ w h.cells.1 (h.frozen 0)
 obtain ⟨w2, hw2⟩ : ∃ w2, w1.setCells s.vb (k * 5) x.cells = w2 := ⟨_, rfl⟩
 have hcp : ∀ ty, (Builtin.copy_ #[74, 9] ty #[.slice (some ⟨s.vb, k * 5, none⟩) 4 4, x.str]).run Tryz.prog w1 = .ok (goInt 4) w2 := fun ty => by
  have e := run_copy_string (P := Tryz.prog) w1 74 9 ty 5 s.vb (k * 5) 4 4 ⟨#[x.a, x.b, x.c, x.d]⟩ Tryz.underlying74 (fun w => Tryz.sizeOf5 w) (by show 4 ≤ 4; omega) (by
   intro j hj
   have hj' : j < 4 := hj
   rcases (by omega : j = 0 ∨ j = 1 ∨ j = 2 ∨ j = 3) with rfl | rfl | rfl | rfl
   · rw [Nat.add_zero, hv.1]; rfl
   · rw [hv.2.1]; rfl
   · rw [hv.2.2.1]; rfl
   · rw [hv.2.2.2.1]; rfl) (fun j _ => froz_of R1.vol _)
  rw [← hw2]
  exact e
 have R3 := R1.write k x hk
 rw [hw2] at R3
 obtain ⟨a1, a2, a3, a4, a5, a6⟩ := R1.apart
 have hb2 : w2.heap[b]? = w1.heap[b]? := by
  rw [← hw2]
  simp only [B4.cells, World.setCells]
  rw [heap_setCell_other _ _ _ _ (Ne.symm a1), heap_setCell_other _ _ _ _ (Ne.symm a1), heap_setCell_other _ _ _ _ (Ne.symm a1), heap_setCell_other _ _ _ _ (Ne.symm a1)]
 have hvf : ∃ cs, w2.heap[s.vb]? = some (.cells cs 112 (0, 0)) := by
  rw [← hw2]
  have h1 := heap_setCell_same w1 s.vb (k * 5) _ _ (u8 x.a) R1.vol
  have h2 := heap_setCell_same _ s.vb (k * 5 + 1) _ _ (u8 x.b) h1
  have h3 := heap_setCell_same _ s.vb (k * 5 + 1 + 1) _ _ (u8 x.c) h2
  have h4 := heap_setCell_same _ s.vb (k * 5 + 1 + 1 + 1) _ _ (u8 x.d) h3
  exact ⟨_, h4⟩
 obtain ⟨cs, hvf⟩ := hvf
 have f24 : w2.frozen? ⟨s.vb, k * 5 + 4, none⟩ = false := froz_of hvf _
 have c24 : w2.cell? ⟨s.vb, k * 5 + 4, none⟩ = some (.int .i64 s.vol[k].n) := by
  rw [← hw2]
  simp only [B4.cells, World.setCells]
  rw [World.cell?_setCell_other, World.cell?_setCell_other, World.cell?_setCell_other, World.cell?_setCell_other]
  · exact hv.2.2.2.2
  all_goals simp
 obtain ⟨c0, c2, c3, c4, c5, c6, c7, c8, c9⟩ := R1.cells
 have c23 : w2.cell? ⟨b, 3, none⟩ = _ := (World.cell?_of_block hb2).trans c3
 have c27 : w2.cell? ⟨b, 7, none⟩ = _ := (World.cell?_of_block hb2).trans c7
 obtain ⟨w3, hw3⟩ : ∃ w3, w2.setCell ⟨s.vb, k * 5 + 4, none⟩ (.int .i64 s.came) = w3 := ⟨_, rfl⟩
 rw [hw3] at R3
 have F3 : Fr (foot b s) w w3 := by
  rw [← hw3, ← hw2, ← hw1]
  exact (fr_cells (by simp [foot]) _ _ _ (fr_lock b s w _)).setCell _ (Or.inl (by simp [foot]))
 obtain ⟨w4, hw4⟩ : ∃ w4, w3.drew = w4 := ⟨_, rfl⟩
 have hcv : (convert 74 9 (.slice (some ⟨w4.heap.size, 0, none⟩) 1 1)).run Tryz.prog (w4.alloc (.cells #[.int .u8 ((k : Int) % 256)] 5)) = .ok (.string ⟨#[byt k]⟩) (w4.alloc (.cells #[.int .u8 ((k : Int) % 256)] 5)) := by
  rw [byt_eq]
  exact conv1 (by simp [u8])
 have R5 := R3.kept0 (((Fr.refl [] w3).drew).alloc (.cells #[.int .u8 ((k : Int) % 256)] 5))
 have F5 := (F3.drew).alloc (.cells #[.int .u8 ((k : Int) % 256)] 5)
 rw [hw4] at R5 F5
 have HF : Hid (w.setCell ⟨b, 0, none⟩ (.int .i32 1) = w1 ∧ w2.setCell ⟨s.vb, k * 5 + 4, none⟩ (.int .i64 s.came) = w3 ∧ w3.drew = w4) := ⟨hw1, hw3, hw4⟩
 have HR1 : Hid (Rep B w1 b 1 s) := R1
 have HR5 : Hid (Rep B (w4.alloc (.cells #[.int .u8 ((k : Int) % 256)] 5)) b 1 (s.write k x) ∧ Fr (foot b s) w (w4.alloc (.cells #[.int .u8 ((k : Int) % 256)] 5))) := ⟨R5, F5⟩
 have HNt : Hid (∀ W, Rep B W b 1 (s.write k x) → _) := fun W hW => note_any B b 1 (s.write k x) 87 (wtext k x) W hW (by show 5 ≤ 1000; omega) hl
 obtain ⟨n, hn⟩ : ∃ n, s.vol.length = n := ⟨_, rfl⟩
 have hb : (decide ((0 : Int) ≤ (k : Int)) && decide ((k : Int) < (s.vol.length : Int))) = true := by simp; omega
 clear h hw1 R1 c4 c6 c9 R3 F3 R5 F5 hw4 hw2 hvf hb2 hv a1 a2 a3 a4 a5 a6
 rw [hn] at c3 hk c23
 have hx : x.str = .string ⟨#[x.a, x.b, x.c, x.d]⟩ := rfl
 have hwt : wtext k x = ⟨#[byt k]⟩ ++ ⟨#[x.a, x.b, x.c, x.d]⟩ := rfl
 rw [hx] at hcp ⊢
 go_enter_defers Tryz.func25, Tryz.ntmps25
 go_wp2_with (first
  | (go_at_call 23; refine HL.mono ?_; rintro e w' ⟨rfl, hw'⟩; rw [HF.out.1] at hw'; subst hw')
  | (go_at_call 60; refine (HC.out _ HR1.out).mono ?_; rintro e w' ⟨rfl, rfl⟩; rw [hb]))
 refine wp_region_noPanic ?_
 go_region
 refine NoPanic.normal ?_
 rw [HF.out.2.2]
 clear c0 c2 c3 c5 c7 c8 c23 c27 c24 f24 hcp HL HC
 go_wp2_with (go_at_call 21; refine (HNt.out _ HR5.out.1).mono ?_; rintro e w6 ⟨rfl, lv, r6, f6, a6⟩; have HR6 : Hid (Rep B w6 b 1 ((s.write k x).noted 87 (wtext k x) lv) ∧ Fr (foot b s) w w6 ∧ (∀ j, lv.ownBlock = some j → s.lv.ownBlock = some j ∨ w.heap.size ≤ j)) := ⟨r6, HR5.out.2.trans f6 (fun j hj => Or.inl hj), fun j hj => (a6 j hj).imp_right (fun h => Nat.le_trans HR5.out.2.size h)⟩; clear r6 f6 a6)
 refine leaves_cons (f := 24) (args := #[.pointer (some ⟨b, 0, none⟩)]) (by simp) (by simp [go_sem]) ?_
 refine (unlock_deferred Tryz.muLib ⟨b, 0, none⟩ .returning _ HR6.out.1.cells.1 (HR6.out.1.frozen 0)).mono ?_
 rintro e u' w'' ⟨rfl, rfl, rfl⟩
 exact ⟨_, results_tmp rfl _ _ _, rfl, lv, HR6.out.1.lock 0, HR6.out.2.1.setCell _ (Or.inl (by simp [foot])), HR6.out.2.2⟩
set_option maxHeartbeats 800000 in
theorem write_bad (B b : Nat) (s : Sto) (k : Int) (t : ByteArray) (w : World) (h : Rep B w b 0 s) (hk : (decide (0 ≤ k) && decide (k < s.vol.length)) = false ∨ ((t.size : Int) != 4) = true) :
  Calls Tryz.prog 25 #[.pointer (some ⟨b, 0, none⟩), .int .i64 k, .string t] w fun e w' => e = .returned (.int .i64 1) ∧ Rep B w' b 0 s ∧ Fr (foot b s) w w' := by
 obtain ⟨w1, hw1, R1⟩ := h.lk
 have HC : Hid (∀ W, _) := fun W => hasBlock_any B b 1 s k W
 have HL := lock_free Tryz.muLib ⟨b, 0, none⟩ w h.cells.1 (h.frozen 0)
 have HF : Hid (Rep B w b 0 s ∧ w.setCell ⟨b, 0, none⟩ (.int .i32 1) = w1) := ⟨h, hw1⟩
 have HR1 : Hid (Rep B w1 b 1 s) := R1
 clear h hw1 R1
 cases hb : (decide (0 ≤ k) && decide (k < (s.vol.length : Int)))
 · go_enter_defers Tryz.func25, Tryz.ntmps25
   go_wp2_with (first
    | (go_at_call 23; refine HL.mono ?_; rintro e w' ⟨rfl, hw'⟩; rw [HF.out.2] at hw'; subst hw')
    | (go_at_call 60; refine (HC.out _ HR1.out).mono ?_; rintro e w' ⟨rfl, rfl⟩; rw [hb]))
   refine leaves_cons (f := 24) (args := #[.pointer (some ⟨b, 0, none⟩)]) (by simp) (by simp [go_sem]) ?_
   refine (unlock_deferred Tryz.muLib ⟨b, 0, none⟩ .returning _ HR1.out.cells.1 (HR1.out.frozen 0)).mono ?_
   rintro e u' w'' ⟨rfl, rfl, rfl⟩
   exact ⟨_, results_tmp rfl _ _ _, rfl, HR1.out.lock 0, by rw [← HF.out.2]; exact (fr_lock b s w _).setCell _ (Or.inl (by simp [foot]))⟩
 · have hk2 : ((t.size : Int) != 4) = true := by
     rcases hk with h | h
     · rw [hb] at h; cases h
     · exact h
   clear hk
   go_enter_defers Tryz.func25, Tryz.ntmps25
   go_wp2_with (first
    | (go_at_call 23; refine HL.mono ?_; rintro e w' ⟨rfl, hw'⟩; rw [HF.out.2] at hw'; subst hw')
    | (go_at_call 60; refine (HC.out _ HR1.out).mono ?_; rintro e w' ⟨rfl, rfl⟩; rw [hb]))
   refine leaves_cons (f := 24) (args := #[.pointer (some ⟨b, 0, none⟩)]) (by simp) (by simp [go_sem]) ?_
   refine (unlock_deferred Tryz.muLib ⟨b, 0, none⟩ .returning _ HR1.out.cells.1 (HR1.out.frozen 0)).mono ?_
   rintro e u' w'' ⟨rfl, rfl, rfl⟩
   exact ⟨_, results_tmp rfl _ _ _, rfl, HR1.out.lock 0, by rw [← HF.out.2]; exact (fr_lock b s w _).setCell _ (Or.inl (by simp [foot]))⟩
def fi {α : Type} (p : α → Bool) : Nat → List α → Int
 | _, [] => -1
 | i, x :: r => if p x then (i : Int) else fi p (i + 1) r
theorem fi_none {α : Type} {p : α → Bool} : ∀ (l : List α) (i : Nat), (∀ x ∈ l, p x = false) → fi p i l = -1
 | [], _, _ => rfl
 | x :: r, i, h => by
  have hx : p x = false := h x (by simp)
  rw [fi, hx]
  exact fi_none r (i + 1) (fun y hy => h y (by simp [hy]))
theorem fi_some {α : Type} {p : α → Bool} : ∀ (l : List α) (i : Nat), (∃ x ∈ l, p x = true) → ∃ j, ∃ h : j < l.length, fi p i l = ((i + j : Nat) : Int) ∧ p l[j] = true
 | [], _, h => by simp at h
 | x :: r, i, h => by
  cases hx : p x
  · obtain ⟨j, hj, e, hp⟩ := fi_some r (i + 1) (by obtain ⟨y, hy, hp⟩ := h; rcases List.mem_cons.1 hy with rfl | hy; rw [hx] at hp; cases hp; exact ⟨y, hy, hp⟩)
    refine ⟨j + 1, by simpa using hj, ?_, by simpa using hp⟩
    rw [fi, hx]
    simp only [Bool.false_eq_true, if_false]
    rw [e]; congr 1; omega
  · exact ⟨0, by simp, by rw [fi, hx]; simp, by simpa using hx⟩
set_option maxHeartbeats 400000 in
theorem clo58 (x : Sn) (g : Int) (gb : Nat) (w : World) (hg : w.cell? ⟨gb, 0, none⟩ = some (.int .i64 g)) :
  Calls Tryz.prog 100 #[.agg #[.int .i64 x.guid, .int .i64 x.time, .int .i64 x.holds, .int .i64 x.came], .pointer (some ⟨gb, 0, none⟩)] w fun e w' => e = .returned (.bool (x.guid == g)) ∧ Fr [] w w' := by
 have lb := World.block_lt_of_cell? _ _ hg
 go_enter Tryz.func100, Tryz.ntmps100
 go_wp2
 go_ret
 exact ⟨rfl, (Fr.refl _ _).alloc _⟩
set_option maxHeartbeats 400000 in
theorem clo60 (x : Int × Int) (g : Int) (gb : Nat) (w : World) (hg : w.cell? ⟨gb, 0, none⟩ = some (.int .i64 g)) :
  Calls Tryz.prog 104 #[.agg #[.int .i64 x.1, .int .i64 x.2], .pointer (some ⟨gb, 0, none⟩)] w fun e w' => e = .returned (.bool (x.1 == g)) ∧ Fr [] w w' := by
 have lb := World.block_lt_of_cell? _ _ hg
 go_enter Tryz.func104, Tryz.ntmps104
 go_wp2
 go_ret
 exact ⟨rfl, (Fr.refl _ _).alloc _⟩
theorem ret_int {a b : Int} (h : a = b) : Ending.returned (.int .i64 a) = .returned (.int .i64 b) := by rw [h]
theorem own_addr {w : World} {base : Nat} {e : TypeId} {size : Nat} {a : Option Addr} {c : Nat} {n : Nat} {xs : List Value} (h : w.ownsRow base e size (.slice a n c) n xs) (h0 : 0 < n) : ∃ g, a = some ⟨g, 0, none⟩ ∧ n ≤ c ∧ ∀ j, j < n * size → w.cell? ⟨g, j, none⟩ = xs[j]? := by
 rcases h.2 with ⟨h1, h2⟩ | ⟨g, c, cur, h1, hb, hg, hc, hm, hs, ht⟩
 · omega
 · simp at h1
   obtain ⟨rfl, rfl⟩ := h1
   refine ⟨g, rfl, hc, fun j hj => ?_⟩
   rw [cell_of hg, ← ht, List.getElem?_take_of_lt hj, ← Array.getElem?_toList]
set_option maxHeartbeats 1000000 in
theorem index57 (B : Nat) (sv : Value) (l : List Sn) (g : Int) (gb : Nat) (w : World) (ho : w.ownsRow B 119 4 sv l.length (snC l)) (hg : w.cell? ⟨gb, 0, none⟩ = some (.int .i64 g)) (hl : l.length ≤ 1000000) :
  Calls Tryz.prog 99 #[sv, .func (.func 100) #[] #[.pointer (some ⟨gb, 0, none⟩)]] w fun e w' => e = .returned (.int .i64 (fi (fun x : Sn => x.guid == g) 0 l)) ∧ Fr [] w w' := by
 obtain ⟨ao, cap, rfl⟩ := own_shape ho
 obtain ⟨r, hr⟩ : ∃ r, fi (fun x : Sn => x.guid == g) 0 l = r := ⟨_, rfl⟩
 rw [hr]
 have HR : Hid (fi (fun x : Sn => x.guid == g) 0 (l.drop 0) = r) := hr
 have HO : Hid (w.ownsRow B 119 4 (.slice ao l.length cap) l.length (snC l) ∧ w.cell? ⟨gb, 0, none⟩ = some (.int .i64 g)) := ⟨ho, hg⟩
 clear hr ho hg
 go_enter Tryz.func99, Tryz.ntmps99
 go_wp2
 go_loopw [8] (fun i wr => ∃ k : Nat, k ≤ l.length ∧ i = .int .i64 k ∧ Hid (fi (fun x : Sn => x.guid == g) k (l.drop k) = r) ∧ Hid (Fr [] w wr)) (fun i _ => l.length - (intOf i).toNat)
 case atStart => exact ⟨0, Nat.zero_le _, rfl, HR, Fr.refl _ _⟩
 case round =>
  obtain ⟨k, hk, rfl, HK, HW⟩ := hrel
  obtain ⟨W3, hW3⟩ : ∃ W3, W3 = wr := ⟨_, rfl⟩
  subst hW3
  clear HR
  by_cases hlt : k < l.length
  · have H := HK.out
    rw [List.drop_eq_getElem_cons hlt, fi] at H
    have ho' := own_of_block (w' := W3) HO.out.1 (fun j hj => HW.out.block j (HO.out.1.lt j hj).2 (by simp))
    obtain ⟨gg, rfl, hcap, hc⟩ := own_addr ho' (by omega)
    have hs := snC_get l k hlt
    obtain ⟨x, hx⟩ : ∃ x, l[k] = x := ⟨_, rfl⟩
    rw [hx] at hs H
    have d0 : W3.cell? ⟨gg, k * 4, none⟩ = some (.int .i64 x.guid) := by rw [hc _ (by omega)]; exact hs.1
    have d1 : W3.cell? ⟨gg, k * 4 + 1, none⟩ = some (.int .i64 x.time) := by rw [hc _ (by omega)]; exact hs.2.1
    have d2 : W3.cell? ⟨gg, k * 4 + 2, none⟩ = some (.int .i64 x.holds) := by rw [hc _ (by omega)]; exact hs.2.2.1
    have d3 : W3.cell? ⟨gg, k * 4 + 3, none⟩ = some (.int .i64 x.came) := by rw [hc _ (by omega)]; exact hs.2.2.2
    have hg' : W3.cell? ⟨gb, 0, none⟩ = some (.int .i64 g) := HW.out.gb.cell HO.out.2 (by simp)
    have HC := clo58 x g gb W3 hg'
    have hltz : (k : Int) < (l.length : Int) := by omega
    clear HK hc hs ho' hx hg'
    cases hp : (x.guid == g)
    · rw [hp] at HC
      have HH : Hid (fi (fun x : Sn => x.guid == g) (k + 1) (l.drop (k + 1)) = r) := by show _ = _; simpa [hp] using H
      clear H
      go_wp2_with (go_at_call 100; refine HC.mono ?_; rintro e w' ⟨rfl, hfr⟩; have HW' : Hid (Fr [] w w') := HW.out.trans hfr (by simp); clear HW hfr)
      go_roundw
      case rel => exact ⟨k + 1, by omega, by go_num, HH, HW'⟩
      case measure => simp [intOf]; omega
    · rw [hp] at HC
      have HH : Hid ((k : Int) = r) := by show _ = _; simpa [hp] using H
      clear H
      go_wp2_with (go_at_call 100; refine HC.mono ?_; rintro e w' ⟨rfl, hfr⟩; have HW' : Hid (Fr [] w w') := HW.out.trans hfr (by simp); clear HW hfr)
      go_ret
      exact ⟨ret_int HH.out, HW'.out⟩
  · have hkk : k = l.length := by omega
    have HH : Hid ((-1 : Int) = r) := by have := HK.out; rw [hkk] at this; show _ = _; simpa [fi] using this
    clear HK
    subst hkk
    go_wp2
    go_ret
    exact ⟨ret_int HH.out, HW.out⟩
set_option maxHeartbeats 1000000 in
theorem index59 (B : Nat) (sv : Value) (l : List (Int × Int)) (g : Int) (gb : Nat) (w : World) (ho : w.ownsRow B 125 2 sv l.length (mkC l)) (hg : w.cell? ⟨gb, 0, none⟩ = some (.int .i64 g)) (hl : l.length ≤ 1000000) :
  Calls Tryz.prog 103 #[sv, .func (.func 104) #[] #[.pointer (some ⟨gb, 0, none⟩)]] w fun e w' => e = .returned (.int .i64 (fi (fun x : Int × Int => x.1 == g) 0 l)) ∧ Fr [] w w' := by
 obtain ⟨ao, cap, rfl⟩ := own_shape ho
 obtain ⟨r, hr⟩ : ∃ r, fi (fun x : Int × Int => x.1 == g) 0 l = r := ⟨_, rfl⟩
 rw [hr]
 have HR : Hid (fi (fun x : Int × Int => x.1 == g) 0 (l.drop 0) = r) := hr
 have HO : Hid (w.ownsRow B 125 2 (.slice ao l.length cap) l.length (mkC l) ∧ w.cell? ⟨gb, 0, none⟩ = some (.int .i64 g)) := ⟨ho, hg⟩
 clear hr ho hg
 go_enter Tryz.func103, Tryz.ntmps103
 go_wp2
 go_loopw [8] (fun i wr => ∃ k : Nat, k ≤ l.length ∧ i = .int .i64 k ∧ Hid (fi (fun x : Int × Int => x.1 == g) k (l.drop k) = r) ∧ Hid (Fr [] w wr)) (fun i _ => l.length - (intOf i).toNat)
 case atStart => exact ⟨0, Nat.zero_le _, rfl, HR, Fr.refl _ _⟩
 case round =>
  obtain ⟨k, hk, rfl, HK, HW⟩ := hrel
  obtain ⟨W3, hW3⟩ : ∃ W3, W3 = wr := ⟨_, rfl⟩
  subst hW3
  clear HR
  by_cases hlt : k < l.length
  · have H := HK.out
    rw [List.drop_eq_getElem_cons hlt, fi] at H
    have ho' := own_of_block (w' := W3) HO.out.1 (fun j hj => HW.out.block j (HO.out.1.lt j hj).2 (by simp))
    obtain ⟨gg, rfl, hcap, hc⟩ := own_addr ho' (by omega)
    have hs := mkC_get l k hlt
    obtain ⟨x, hx⟩ : ∃ x, l[k] = x := ⟨_, rfl⟩
    rw [hx] at hs H
    have d0 : W3.cell? ⟨gg, k * 2, none⟩ = some (.int .i64 x.1) := by rw [hc _ (by omega)]; exact hs.1
    have d1 : W3.cell? ⟨gg, k * 2 + 1, none⟩ = some (.int .i64 x.2) := by rw [hc _ (by omega)]; exact hs.2
    have hg' : W3.cell? ⟨gb, 0, none⟩ = some (.int .i64 g) := HW.out.gb.cell HO.out.2 (by simp)
    have HC := clo60 x g gb W3 hg'
    have hltz : (k : Int) < (l.length : Int) := by omega
    clear HK hc hs ho' hx hg'
    cases hp : (x.1 == g)
    · rw [hp] at HC
      have HH : Hid (fi (fun x : Int × Int => x.1 == g) (k + 1) (l.drop (k + 1)) = r) := by show _ = _; simpa [hp] using H
      clear H
      go_wp2_with (go_at_call 104; refine HC.mono ?_; rintro e w' ⟨rfl, hfr⟩; have HW' : Hid (Fr [] w w') := HW.out.trans hfr (by simp); clear HW hfr)
      go_roundw
      case rel => exact ⟨k + 1, by omega, by go_num, HH, HW'⟩
      case measure => simp [intOf]; omega
    · rw [hp] at HC
      have HH : Hid ((k : Int) = r) := by show _ = _; simpa [hp] using H
      clear H
      go_wp2_with (go_at_call 104; refine HC.mono ?_; rintro e w' ⟨rfl, hfr⟩; have HW' : Hid (Fr [] w w') := HW.out.trans hfr (by simp); clear HW hfr)
      go_ret
      exact ⟨ret_int HH.out, HW'.out⟩
  · have hkk : k = l.length := by omega
    have HH : Hid ((-1 : Int) = r) := by have := HK.out; rw [hkk] at this; show _ = _; simpa [fi] using this
    clear HK
    subst hkk
    go_wp2
    go_ret
    exact ⟨ret_int HH.out, HW.out⟩
set_option maxHeartbeats 400000 in
theorem findSnapshot_any (B b : Nat) (q : Int) (s : Sto) (g : Int) (w : World) (h : Rep B w b q s) (hl : s.ss.length ≤ 1000000) :
  Calls Tryz.prog 65 #[.pointer (some ⟨b, 0, none⟩), .int .i64 g] w fun e w' => e = .returned (.int .i64 (fi (fun x : Sn => x.guid == g) 0 s.ss)) ∧ Fr [] w w' := by
 obtain ⟨c0, c2, c3, c4, c5, c6, c7, c8, c9⟩ := h.cells
 have lb := World.block_lt_of_cell? _ _ c4
 have HC := index57 B s.sv s.ss g w.heap.size (w.alloc (.cells #[.int .i64 g] 3)) (h.ss.alloc _) (by simp) hl
 obtain ⟨ao, cap, hsv⟩ := own_shape h.ss
 have HH : Hid (Rep B w b q s) := h
 rw [hsv] at c4 HC
 clear c6 h hsv
 go_enter Tryz.func65, Tryz.ntmps65
 go_wp2_with (go_at_call 99; refine HC.mono ?_; rintro e w' ⟨rfl, hfr⟩)
 go_ret
 exact ⟨rfl, ((Fr.refl _ _).alloc _).trans hfr (by simp)⟩
set_option maxHeartbeats 400000 in
theorem findMark_any (B b : Nat) (q : Int) (s : Sto) (g : Int) (w : World) (h : Rep B w b q s) (hl : s.ms.length ≤ 1000000) :
  Calls Tryz.prog 69 #[.pointer (some ⟨b, 0, none⟩), .int .i64 g] w fun e w' => e = .returned (.int .i64 (fi (fun x : Int × Int => x.1 == g) 0 s.ms)) ∧ Fr [] w w' := by
 obtain ⟨c0, c2, c3, c4, c5, c6, c7, c8, c9⟩ := h.cells
 have lb := World.block_lt_of_cell? _ _ c6
 have HC := index59 B s.mv s.ms g w.heap.size (w.alloc (.cells #[.int .i64 g] 3)) (h.ms.alloc _) (by simp) hl
 obtain ⟨ao, cap, hsv⟩ := own_shape h.ms
 have HH : Hid (Rep B w b q s) := h
 rw [hsv] at c6 HC
 clear c4 h hsv
 go_enter Tryz.func69, Tryz.ntmps69
 go_wp2_with (go_at_call 103; refine HC.mono ?_; rintro e w' ⟨rfl, hfr⟩)
 go_ret
 exact ⟨rfl, ((Fr.refl _ _).alloc _).trans hfr (by simp)⟩
end Go.Proofs.YthdhegmlknpllaaGreat
