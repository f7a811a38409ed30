import Derived.Test.YthdhegmlknpllaaGreatM21
/-
  The walk of the law's store (16): the other calls that change or tell one thing.
-/
namespace Go.Proofs.YthdhegmlknpllaaGreat
open Go.RowKit Go.Maps Go.MuLone

set_option maxRecDepth 100000 in
set_option maxHeartbeats 1600000 in
theorem store_read (w0 : World) (B wb : Nat) (sv tv : Value) (T : List ByteArray) (kv mv : Value) (sds : List SdR) (K M : List (Nat × Nat × Nat)) (q : Nat) (i : Nat) (x : SdR) (at' a b : Int) (t : ByteArray) (lo : Option Addr) (n c : Nat) (w : World) (h : LS w0 B w wb sv tv T kv mv sds K M q) (hx : sds[i]? = some x)  :
    Calls Tryz.prog 16 #[.pointer (some ⟨wb, 0, none⟩), .pointer (some ⟨x.db, 0, none⟩), .agg #[.int .i64 2, .int .i64 at', .int .i64 a, .int .i64 b, .string t, .slice lo n c]] w fun e w' => e = .returned (.bool true) ∧ LP w0 B w' wb sv (sds.map SdR.db) (q + 1) := by
  obtain ⟨db, hdb⟩ : ∃ db, x.db = db := ⟨_, rfl⟩
  obtain ⟨xb, hxb⟩ : ∃ xb, x.b = xb := ⟨_, rfl⟩
  obtain ⟨rb, hrb⟩ : ∃ rb, x.rb = rb := ⟨_, rfl⟩
  obtain ⟨D, hD⟩ : ∃ D, sds.map SdR.db = D := ⟨_, rfl⟩
  obtain ⟨W1, hW1⟩ : ∃ W1, w.alloc (.cells #[.int .i64 2, .int .i64 at', .int .i64 a, .int .i64 b, .string t, .slice lo n c] 41) = W1 := ⟨_, rfl⟩
  obtain ⟨ob, hob⟩ : ∃ ob, w.heap.size = ob := ⟨_, rfl⟩
  have o1 : W1.heap[ob]? = some (.cells #[.int .i64 2, .int .i64 at', .int .i64 a, .int .i64 b, .string t, .slice lo n c] 41 (0, 0)) := by rw [← hW1, ← hob]; exact heap_alloc_new w _
  have h1 : LS w0 B W1 wb sv tv T kv mv sds K M q := h.same (by rw [← hW1]; exact (Fr.refl _ _).alloc _)
  have d1 : W1.heap[db]? = some (sdO xb rb) := by rw [← hdb, ← hxb, ← hrb]; exact (h1.sd i x hx).1.blk
  have HCs : Hid (∀ W : World, W.heap[ob]? = some (.cells #[.int .i64 2, .int .i64 at', .int .i64 a, .int .i64 b, .string t, .slice lo n c] 41 (0, 0)) → W.heap[db]? = some (sdO xb rb) → W.cell? ⟨ob, 0, none⟩ = some (.int .i64 2) ∧ W.cell? ⟨ob, 2, none⟩ = some (.int .i64 a) ∧ W.cell? ⟨ob, 3, none⟩ = some (.int .i64 b) ∧ W.cell? ⟨db, 0, none⟩ = some (.pointer (some ⟨xb, 0, none⟩)) ∧ W.cell? ⟨db, 1, none⟩ = some (.pointer (some ⟨rb, 0, none⟩))) := fun W e1 e2 => by
    refine ⟨?_, ?_, ?_, ?_, ?_⟩
    · rw [cell_of e1]; rfl
    · rw [cell_of e1]; rfl
    · rw [cell_of e1]; rfl
    · rw [cell_of e2]; rfl
    · rw [cell_of e2]; rfl
  obtain ⟨k0, k2, k4, k5, k6⟩ := HCs.out W1 o1 d1
  have HP : Hid (∀ W, Fr [] W1 W → Calls Tryz.prog 27 #[.pointer (some ⟨xb, 0, none⟩), .int .i64 a] W (QC fT w0 B wb sv D q db xb rb ob (.cells #[.int .i64 2, .int .i64 at', .int .i64 a, .int .i64 b, .string t, .slice lo n c] 41 (0, 0)) 28 #[.pointer (some ⟨rb, 0, none⟩), .int .i64 a])) := fun W hW => by
    have hW2 := h1.same hW
    have oW : W.heap[ob]? = some (.cells #[.int .i64 2, .int .i64 at', .int .i64 a, .int .i64 b, .string t, .slice lo n c] 41 (0, 0)) := by rw [hW.block ob (Array.getElem?_eq_some_iff.1 o1).1 (by simp)]; exact o1
    rw [← hdb, ← hxb, ← hrb, ← hD]
    exact (p_read (hW2.sd i x hx).1 (hW2.sd i x hx).2 a).mono fun e w1 p => p.q hW2 hx oW
  rw [hdb, hD]
  clear h h1 hx o1 d1 hdb hxb hrb hD
  go_enter Tryz.func16, Tryz.ntmps16
  go_wp2
  clear hW1 hob
  go_region_held3 (fun w' => w'.cell? ⟨ob, 2, none⟩ = some (.int .i64 a) ∧ w'.cell? ⟨ob, 3, none⟩ = some (.int .i64 b) ∧ w'.cell? ⟨db, 0, none⟩ = some (.pointer (some ⟨xb, 0, none⟩)))
    (first
      | exact ⟨y2, y4, y5⟩
      | go_keep)
    (first
      | (go_at_call 27; refine (HP.out _ (by first | exact Fr.refl _ _ | exact (Fr.refl _ _).drew | exact (Fr.refl _ _).drewN _)).mono ?_; rintro e w4 ⟨⟨u, z⟩, rfl, b4, o4, hr4⟩; have H4 : Hid (∀ W, Fr [] w4 W → Calls Tryz.prog 28 #[.pointer (some ⟨rb, 0, none⟩), .int .i64 a] W fun e2 w2 => e2 = .returned (.tuple #[.string u, .int .i64 z]) ∧ LP w0 B w2 wb sv D (q + 1) ∧ w2.heap[db]? = some (sdO xb rb) ∧ w2.heap[ob]? = some (.cells #[.int .i64 2, .int .i64 at', .int .i64 a, .int .i64 b, .string t, .slice lo n c] 41 (0, 0))) := hr4; obtain ⟨y0, y2, y4, y5, y6⟩ := HCs.out w4 o4 b4; rw [show fT (u, z) = Value.tuple #[.string u, .int .i64 z] from rfl]; clear b4 o4 hr4))
  all_goals
    go_wp2
    go_region_held3 (fun w' => w'.cell? ⟨ob, 2, none⟩ = some (.int .i64 a) ∧ w'.cell? ⟨ob, 3, none⟩ = some (.int .i64 b) ∧ w'.cell? ⟨db, 1, none⟩ = some (.pointer (some ⟨rb, 0, none⟩)))
      (first
        | exact ⟨z2, z4, z6⟩
        | go_keep)
      (first
        | (go_at_call 28; refine (H4.out _ (by first | exact Fr.refl _ _ | exact (Fr.refl _ _).drew | exact (Fr.refl _ _).drewN _)).mono ?_; rintro e w5 ⟨rfl, l5, b5, o5⟩; have H5 : Hid (LP w0 B w5 wb sv D (q + 1)) := l5; obtain ⟨z0, z2, z4, z5, z6⟩ := HCs.out w5 o5 b5; clear l5 b5 o5))
    all_goals
      go_wp2
      go_ret
      exact ⟨rfl, H5.out⟩

set_option maxRecDepth 100000 in
set_option maxHeartbeats 1600000 in
theorem store_snap (w0 : World) (B wb : Nat) (sv tv : Value) (T : List ByteArray) (kv mv : Value) (sds : List SdR) (K M : List (Nat × Nat × Nat)) (q : Nat) (i : Nat) (x : SdR) (at' a b : Int) (t : ByteArray) (lo : Option Addr) (n c : Nat) (w : World) (h : LS w0 B w wb sv tv T kv mv sds K M q) (hx : sds[i]? = some x) (hq : q ≤ 2000000) :
    Calls Tryz.prog 16 #[.pointer (some ⟨wb, 0, none⟩), .pointer (some ⟨x.db, 0, none⟩), .agg #[.int .i64 3, .int .i64 at', .int .i64 a, .int .i64 b, .string t, .slice lo n c]] w fun e w' => e = .returned (.bool true) ∧ LP w0 B w' wb sv (sds.map SdR.db) (q + 1) := by
  obtain ⟨db, hdb⟩ : ∃ db, x.db = db := ⟨_, rfl⟩
  obtain ⟨xb, hxb⟩ : ∃ xb, x.b = xb := ⟨_, rfl⟩
  obtain ⟨rb, hrb⟩ : ∃ rb, x.rb = rb := ⟨_, rfl⟩
  obtain ⟨D, hD⟩ : ∃ D, sds.map SdR.db = D := ⟨_, rfl⟩
  obtain ⟨W1, hW1⟩ : ∃ W1, w.alloc (.cells #[.int .i64 3, .int .i64 at', .int .i64 a, .int .i64 b, .string t, .slice lo n c] 41) = W1 := ⟨_, rfl⟩
  obtain ⟨ob, hob⟩ : ∃ ob, w.heap.size = ob := ⟨_, rfl⟩
  have o1 : W1.heap[ob]? = some (.cells #[.int .i64 3, .int .i64 at', .int .i64 a, .int .i64 b, .string t, .slice lo n c] 41 (0, 0)) := by rw [← hW1, ← hob]; exact heap_alloc_new w _
  have h1 : LS w0 B W1 wb sv tv T kv mv sds K M q := h.same (by rw [← hW1]; exact (Fr.refl _ _).alloc _)
  have d1 : W1.heap[db]? = some (sdO xb rb) := by rw [← hdb, ← hxb, ← hrb]; exact (h1.sd i x hx).1.blk
  have HCs : Hid (∀ W : World, W.heap[ob]? = some (.cells #[.int .i64 3, .int .i64 at', .int .i64 a, .int .i64 b, .string t, .slice lo n c] 41 (0, 0)) → W.heap[db]? = some (sdO xb rb) → W.cell? ⟨ob, 0, none⟩ = some (.int .i64 3) ∧ W.cell? ⟨ob, 2, none⟩ = some (.int .i64 a) ∧ W.cell? ⟨ob, 3, none⟩ = some (.int .i64 b) ∧ W.cell? ⟨db, 0, none⟩ = some (.pointer (some ⟨xb, 0, none⟩)) ∧ W.cell? ⟨db, 1, none⟩ = some (.pointer (some ⟨rb, 0, none⟩))) := fun W e1 e2 => by
    refine ⟨?_, ?_, ?_, ?_, ?_⟩
    · rw [cell_of e1]; rfl
    · rw [cell_of e1]; rfl
    · rw [cell_of e1]; rfl
    · rw [cell_of e2]; rfl
    · rw [cell_of e2]; rfl
  obtain ⟨k0, k2, k4, k5, k6⟩ := HCs.out W1 o1 d1
  have HP : Hid (∀ W, Fr [] W1 W → Calls Tryz.prog 29 #[.pointer (some ⟨xb, 0, none⟩), .int .i64 a] W (QC fI w0 B wb sv D q db xb rb ob (.cells #[.int .i64 3, .int .i64 at', .int .i64 a, .int .i64 b, .string t, .slice lo n c] 41 (0, 0)) 30 #[.pointer (some ⟨rb, 0, none⟩), .int .i64 a])) := fun W hW => by
    have hW2 := h1.same hW
    have oW : W.heap[ob]? = some (.cells #[.int .i64 3, .int .i64 at', .int .i64 a, .int .i64 b, .string t, .slice lo n c] 41 (0, 0)) := by rw [hW.block ob (Array.getElem?_eq_some_iff.1 o1).1 (by simp)]; exact o1
    rw [← hdb, ← hxb, ← hrb, ← hD]
    exact (p_snap (hW2.sd i x hx).1 (hW2.sd i x hx).2 a hq).mono fun e w1 p => p.q hW2 hx oW
  rw [hdb, hD]
  clear h h1 hx o1 d1 hdb hxb hrb hD
  go_enter Tryz.func16, Tryz.ntmps16
  go_wp2
  clear hW1 hob
  go_region_held3 (fun w' => w'.cell? ⟨ob, 2, none⟩ = some (.int .i64 a) ∧ w'.cell? ⟨ob, 3, none⟩ = some (.int .i64 b) ∧ w'.cell? ⟨db, 0, none⟩ = some (.pointer (some ⟨xb, 0, none⟩)))
    (first
      | exact ⟨y2, y4, y5⟩
      | go_keep)
    (first
      | (go_at_call 29; refine (HP.out _ (by first | exact Fr.refl _ _ | exact (Fr.refl _ _).drew | exact (Fr.refl _ _).drewN _)).mono ?_; rintro e w4 ⟨⟨u, z⟩, rfl, b4, o4, hr4⟩; have H4 : Hid (∀ W, Fr [] w4 W → Calls Tryz.prog 30 #[.pointer (some ⟨rb, 0, none⟩), .int .i64 a] W fun e2 w2 => e2 = .returned (.tuple #[.int .i64 u, .int .i64 z]) ∧ LP w0 B w2 wb sv D (q + 1) ∧ w2.heap[db]? = some (sdO xb rb) ∧ w2.heap[ob]? = some (.cells #[.int .i64 3, .int .i64 at', .int .i64 a, .int .i64 b, .string t, .slice lo n c] 41 (0, 0))) := hr4; obtain ⟨y0, y2, y4, y5, y6⟩ := HCs.out w4 o4 b4; rw [show fI (u, z) = Value.tuple #[.int .i64 u, .int .i64 z] from rfl]; clear b4 o4 hr4))
  all_goals
    go_wp2
    go_region_held3 (fun w' => w'.cell? ⟨ob, 2, none⟩ = some (.int .i64 a) ∧ w'.cell? ⟨ob, 3, none⟩ = some (.int .i64 b) ∧ w'.cell? ⟨db, 1, none⟩ = some (.pointer (some ⟨rb, 0, none⟩)))
      (first
        | exact ⟨z2, z4, z6⟩
        | go_keep)
      (first
        | (go_at_call 30; refine (H4.out _ (by first | exact Fr.refl _ _ | exact (Fr.refl _ _).drew | exact (Fr.refl _ _).drewN _)).mono ?_; rintro e w5 ⟨rfl, l5, b5, o5⟩; have H5 : Hid (LP w0 B w5 wb sv D (q + 1)) := l5; obtain ⟨z0, z2, z4, z5, z6⟩ := HCs.out w5 o5 b5; clear l5 b5 o5))
    all_goals
      go_wp2
      go_ret
      exact ⟨rfl, H5.out⟩

set_option maxRecDepth 100000 in
set_option maxHeartbeats 1600000 in
theorem store_at (w0 : World) (B wb : Nat) (sv tv : Value) (T : List ByteArray) (kv mv : Value) (sds : List SdR) (K M : List (Nat × Nat × Nat)) (q : Nat) (i : Nat) (x : SdR) (at' a b : Int) (t : ByteArray) (lo : Option Addr) (n c : Nat) (w : World) (h : LS w0 B w wb sv tv T kv mv sds K M q) (hx : sds[i]? = some x) (ha : In64 a) :
    Calls Tryz.prog 16 #[.pointer (some ⟨wb, 0, none⟩), .pointer (some ⟨x.db, 0, none⟩), .agg #[.int .i64 5, .int .i64 at', .int .i64 a, .int .i64 b, .string t, .slice lo n c]] w fun e w' => e = .returned (.bool true) ∧ LP w0 B w' wb sv (sds.map SdR.db) (q + 1) := by
  obtain ⟨db, hdb⟩ : ∃ db, x.db = db := ⟨_, rfl⟩
  obtain ⟨xb, hxb⟩ : ∃ xb, x.b = xb := ⟨_, rfl⟩
  obtain ⟨rb, hrb⟩ : ∃ rb, x.rb = rb := ⟨_, rfl⟩
  obtain ⟨D, hD⟩ : ∃ D, sds.map SdR.db = D := ⟨_, rfl⟩
  obtain ⟨W1, hW1⟩ : ∃ W1, w.alloc (.cells #[.int .i64 5, .int .i64 at', .int .i64 a, .int .i64 b, .string t, .slice lo n c] 41) = W1 := ⟨_, rfl⟩
  obtain ⟨ob, hob⟩ : ∃ ob, w.heap.size = ob := ⟨_, rfl⟩
  have o1 : W1.heap[ob]? = some (.cells #[.int .i64 5, .int .i64 at', .int .i64 a, .int .i64 b, .string t, .slice lo n c] 41 (0, 0)) := by rw [← hW1, ← hob]; exact heap_alloc_new w _
  have h1 : LS w0 B W1 wb sv tv T kv mv sds K M q := h.same (by rw [← hW1]; exact (Fr.refl _ _).alloc _)
  have d1 : W1.heap[db]? = some (sdO xb rb) := by rw [← hdb, ← hxb, ← hrb]; exact (h1.sd i x hx).1.blk
  have HCs : Hid (∀ W : World, W.heap[ob]? = some (.cells #[.int .i64 5, .int .i64 at', .int .i64 a, .int .i64 b, .string t, .slice lo n c] 41 (0, 0)) → W.heap[db]? = some (sdO xb rb) → W.cell? ⟨ob, 0, none⟩ = some (.int .i64 5) ∧ W.cell? ⟨ob, 2, none⟩ = some (.int .i64 a) ∧ W.cell? ⟨ob, 3, none⟩ = some (.int .i64 b) ∧ W.cell? ⟨db, 0, none⟩ = some (.pointer (some ⟨xb, 0, none⟩)) ∧ W.cell? ⟨db, 1, none⟩ = some (.pointer (some ⟨rb, 0, none⟩))) := fun W e1 e2 => by
    refine ⟨?_, ?_, ?_, ?_, ?_⟩
    · rw [cell_of e1]; rfl
    · rw [cell_of e1]; rfl
    · rw [cell_of e1]; rfl
    · rw [cell_of e2]; rfl
    · rw [cell_of e2]; rfl
  obtain ⟨k0, k2, k4, k5, k6⟩ := HCs.out W1 o1 d1
  have HP : Hid (∀ W, Fr [] W1 W → Calls Tryz.prog 35 #[.pointer (some ⟨xb, 0, none⟩), .int .i64 a, .int .i64 b] W (QC fT w0 B wb sv D q db xb rb ob (.cells #[.int .i64 5, .int .i64 at', .int .i64 a, .int .i64 b, .string t, .slice lo n c] 41 (0, 0)) 36 #[.pointer (some ⟨rb, 0, none⟩), .int .i64 a, .int .i64 b])) := fun W hW => by
    have hW2 := h1.same hW
    have oW : W.heap[ob]? = some (.cells #[.int .i64 5, .int .i64 at', .int .i64 a, .int .i64 b, .string t, .slice lo n c] 41 (0, 0)) := by rw [hW.block ob (Array.getElem?_eq_some_iff.1 o1).1 (by simp)]; exact o1
    rw [← hdb, ← hxb, ← hrb, ← hD]
    exact (p_at (hW2.sd i x hx).1 (hW2.sd i x hx).2 a b ha).mono fun e w1 p => p.q hW2 hx oW
  rw [hdb, hD]
  clear h h1 hx o1 d1 hdb hxb hrb hD
  go_enter Tryz.func16, Tryz.ntmps16
  go_wp2
  clear hW1 hob
  go_region_held3 (fun w' => w'.cell? ⟨ob, 2, none⟩ = some (.int .i64 a) ∧ w'.cell? ⟨ob, 3, none⟩ = some (.int .i64 b) ∧ w'.cell? ⟨db, 0, none⟩ = some (.pointer (some ⟨xb, 0, none⟩)))
    (first
      | exact ⟨y2, y4, y5⟩
      | go_keep)
    (first
      | (go_at_call 35; refine (HP.out _ (by first | exact Fr.refl _ _ | exact (Fr.refl _ _).drew | exact (Fr.refl _ _).drewN _)).mono ?_; rintro e w4 ⟨⟨u, z⟩, rfl, b4, o4, hr4⟩; have H4 : Hid (∀ W, Fr [] w4 W → Calls Tryz.prog 36 #[.pointer (some ⟨rb, 0, none⟩), .int .i64 a, .int .i64 b] W fun e2 w2 => e2 = .returned (.tuple #[.string u, .int .i64 z]) ∧ LP w0 B w2 wb sv D (q + 1) ∧ w2.heap[db]? = some (sdO xb rb) ∧ w2.heap[ob]? = some (.cells #[.int .i64 5, .int .i64 at', .int .i64 a, .int .i64 b, .string t, .slice lo n c] 41 (0, 0))) := hr4; obtain ⟨y0, y2, y4, y5, y6⟩ := HCs.out w4 o4 b4; rw [show fT (u, z) = Value.tuple #[.string u, .int .i64 z] from rfl]; clear b4 o4 hr4))
  all_goals
    go_wp2
    go_region_held3 (fun w' => w'.cell? ⟨ob, 2, none⟩ = some (.int .i64 a) ∧ w'.cell? ⟨ob, 3, none⟩ = some (.int .i64 b) ∧ w'.cell? ⟨db, 1, none⟩ = some (.pointer (some ⟨rb, 0, none⟩)))
      (first
        | exact ⟨z2, z4, z6⟩
        | go_keep)
      (first
        | (go_at_call 36; refine (H4.out _ (by first | exact Fr.refl _ _ | exact (Fr.refl _ _).drew | exact (Fr.refl _ _).drewN _)).mono ?_; rintro e w5 ⟨rfl, l5, b5, o5⟩; have H5 : Hid (LP w0 B w5 wb sv D (q + 1)) := l5; obtain ⟨z0, z2, z4, z5, z6⟩ := HCs.out w5 o5 b5; clear l5 b5 o5))
    all_goals
      go_wp2
      go_ret
      exact ⟨rfl, H5.out⟩

set_option maxRecDepth 100000 in
set_option maxHeartbeats 1600000 in
theorem store_hold (w0 : World) (B wb : Nat) (sv tv : Value) (T : List ByteArray) (kv mv : Value) (sds : List SdR) (K M : List (Nat × Nat × Nat)) (q : Nat) (i : Nat) (x : SdR) (at' a b : Int) (t : ByteArray) (lo : Option Addr) (n c : Nat) (w : World) (h : LS w0 B w wb sv tv T kv mv sds K M q) (hx : sds[i]? = some x) (hq : q ≤ 2000000) :
    Calls Tryz.prog 16 #[.pointer (some ⟨wb, 0, none⟩), .pointer (some ⟨x.db, 0, none⟩), .agg #[.int .i64 6, .int .i64 at', .int .i64 a, .int .i64 b, .string t, .slice lo n c]] w fun e w' => e = .returned (.bool true) ∧ LP w0 B w' wb sv (sds.map SdR.db) (q + 1) := by
  obtain ⟨db, hdb⟩ : ∃ db, x.db = db := ⟨_, rfl⟩
  obtain ⟨xb, hxb⟩ : ∃ xb, x.b = xb := ⟨_, rfl⟩
  obtain ⟨rb, hrb⟩ : ∃ rb, x.rb = rb := ⟨_, rfl⟩
  obtain ⟨D, hD⟩ : ∃ D, sds.map SdR.db = D := ⟨_, rfl⟩
  obtain ⟨W1, hW1⟩ : ∃ W1, w.alloc (.cells #[.int .i64 6, .int .i64 at', .int .i64 a, .int .i64 b, .string t, .slice lo n c] 41) = W1 := ⟨_, rfl⟩
  obtain ⟨ob, hob⟩ : ∃ ob, w.heap.size = ob := ⟨_, rfl⟩
  have o1 : W1.heap[ob]? = some (.cells #[.int .i64 6, .int .i64 at', .int .i64 a, .int .i64 b, .string t, .slice lo n c] 41 (0, 0)) := by rw [← hW1, ← hob]; exact heap_alloc_new w _
  have h1 : LS w0 B W1 wb sv tv T kv mv sds K M q := h.same (by rw [← hW1]; exact (Fr.refl _ _).alloc _)
  have d1 : W1.heap[db]? = some (sdO xb rb) := by rw [← hdb, ← hxb, ← hrb]; exact (h1.sd i x hx).1.blk
  have HCs : Hid (∀ W : World, W.heap[ob]? = some (.cells #[.int .i64 6, .int .i64 at', .int .i64 a, .int .i64 b, .string t, .slice lo n c] 41 (0, 0)) → W.heap[db]? = some (sdO xb rb) → W.cell? ⟨ob, 0, none⟩ = some (.int .i64 6) ∧ W.cell? ⟨ob, 2, none⟩ = some (.int .i64 a) ∧ W.cell? ⟨ob, 3, none⟩ = some (.int .i64 b) ∧ W.cell? ⟨db, 0, none⟩ = some (.pointer (some ⟨xb, 0, none⟩)) ∧ W.cell? ⟨db, 1, none⟩ = some (.pointer (some ⟨rb, 0, none⟩))) := fun W e1 e2 => by
    refine ⟨?_, ?_, ?_, ?_, ?_⟩
    · rw [cell_of e1]; rfl
    · rw [cell_of e1]; rfl
    · rw [cell_of e1]; rfl
    · rw [cell_of e2]; rfl
    · rw [cell_of e2]; rfl
  obtain ⟨k0, k2, k4, k5, k6⟩ := HCs.out W1 o1 d1
  have HP : Hid (∀ W, Fr [] W1 W → Calls Tryz.prog 37 #[.pointer (some ⟨xb, 0, none⟩), .int .i64 a] W (QC fC w0 B wb sv D q db xb rb ob (.cells #[.int .i64 6, .int .i64 at', .int .i64 a, .int .i64 b, .string t, .slice lo n c] 41 (0, 0)) 38 #[.pointer (some ⟨rb, 0, none⟩), .int .i64 a])) := fun W hW => by
    have hW2 := h1.same hW
    have oW : W.heap[ob]? = some (.cells #[.int .i64 6, .int .i64 at', .int .i64 a, .int .i64 b, .string t, .slice lo n c] 41 (0, 0)) := by rw [hW.block ob (Array.getElem?_eq_some_iff.1 o1).1 (by simp)]; exact o1
    rw [← hdb, ← hxb, ← hrb, ← hD]
    exact (p_hold (hW2.sd i x hx).1 (hW2.sd i x hx).2 a hq).mono fun e w1 p => p.q hW2 hx oW
  rw [hdb, hD]
  clear h h1 hx o1 d1 hdb hxb hrb hD
  go_enter Tryz.func16, Tryz.ntmps16
  go_wp2
  clear hW1 hob
  go_region_held3 (fun w' => w'.cell? ⟨ob, 2, none⟩ = some (.int .i64 a) ∧ w'.cell? ⟨ob, 3, none⟩ = some (.int .i64 b) ∧ w'.cell? ⟨db, 0, none⟩ = some (.pointer (some ⟨xb, 0, none⟩)))
    (first
      | exact ⟨y2, y4, y5⟩
      | go_keep)
    (first
      | (go_at_call 37; refine (HP.out _ (by first | exact Fr.refl _ _ | exact (Fr.refl _ _).drew | exact (Fr.refl _ _).drewN _)).mono ?_; rintro e w4 ⟨z, rfl, b4, o4, hr4⟩; have H4 : Hid (∀ W, Fr [] w4 W → Calls Tryz.prog 38 #[.pointer (some ⟨rb, 0, none⟩), .int .i64 a] W fun e2 w2 => e2 = .returned (.int .i64 z) ∧ LP w0 B w2 wb sv D (q + 1) ∧ w2.heap[db]? = some (sdO xb rb) ∧ w2.heap[ob]? = some (.cells #[.int .i64 6, .int .i64 at', .int .i64 a, .int .i64 b, .string t, .slice lo n c] 41 (0, 0))) := hr4; obtain ⟨y0, y2, y4, y5, y6⟩ := HCs.out w4 o4 b4; rw [show fC z = Value.int .i64 z from rfl]; clear b4 o4 hr4))
  all_goals
    go_wp2
    go_region_held3 (fun w' => w'.cell? ⟨ob, 2, none⟩ = some (.int .i64 a) ∧ w'.cell? ⟨ob, 3, none⟩ = some (.int .i64 b) ∧ w'.cell? ⟨db, 1, none⟩ = some (.pointer (some ⟨rb, 0, none⟩)))
      (first
        | exact ⟨z2, z4, z6⟩
        | go_keep)
      (first
        | (go_at_call 38; refine (H4.out _ (by first | exact Fr.refl _ _ | exact (Fr.refl _ _).drew | exact (Fr.refl _ _).drewN _)).mono ?_; rintro e w5 ⟨rfl, l5, b5, o5⟩; have H5 : Hid (LP w0 B w5 wb sv D (q + 1)) := l5; obtain ⟨z0, z2, z4, z5, z6⟩ := HCs.out w5 o5 b5; clear l5 b5 o5))
    all_goals
      go_wp2
      go_ret
      exact ⟨rfl, H5.out⟩

set_option maxRecDepth 100000 in
set_option maxHeartbeats 1600000 in
theorem store_release (w0 : World) (B wb : Nat) (sv tv : Value) (T : List ByteArray) (kv mv : Value) (sds : List SdR) (K M : List (Nat × Nat × Nat)) (q : Nat) (i : Nat) (x : SdR) (at' a b : Int) (t : ByteArray) (lo : Option Addr) (n c : Nat) (w : World) (h : LS w0 B w wb sv tv T kv mv sds K M q) (hx : sds[i]? = some x) (hq : q ≤ 2000000) :
    Calls Tryz.prog 16 #[.pointer (some ⟨wb, 0, none⟩), .pointer (some ⟨x.db, 0, none⟩), .agg #[.int .i64 7, .int .i64 at', .int .i64 a, .int .i64 b, .string t, .slice lo n c]] w fun e w' => e = .returned (.bool true) ∧ LP w0 B w' wb sv (sds.map SdR.db) (q + 1) := by
  obtain ⟨db, hdb⟩ : ∃ db, x.db = db := ⟨_, rfl⟩
  obtain ⟨xb, hxb⟩ : ∃ xb, x.b = xb := ⟨_, rfl⟩
  obtain ⟨rb, hrb⟩ : ∃ rb, x.rb = rb := ⟨_, rfl⟩
  obtain ⟨D, hD⟩ : ∃ D, sds.map SdR.db = D := ⟨_, rfl⟩
  obtain ⟨W1, hW1⟩ : ∃ W1, w.alloc (.cells #[.int .i64 7, .int .i64 at', .int .i64 a, .int .i64 b, .string t, .slice lo n c] 41) = W1 := ⟨_, rfl⟩
  obtain ⟨ob, hob⟩ : ∃ ob, w.heap.size = ob := ⟨_, rfl⟩
  have o1 : W1.heap[ob]? = some (.cells #[.int .i64 7, .int .i64 at', .int .i64 a, .int .i64 b, .string t, .slice lo n c] 41 (0, 0)) := by rw [← hW1, ← hob]; exact heap_alloc_new w _
  have h1 : LS w0 B W1 wb sv tv T kv mv sds K M q := h.same (by rw [← hW1]; exact (Fr.refl _ _).alloc _)
  have d1 : W1.heap[db]? = some (sdO xb rb) := by rw [← hdb, ← hxb, ← hrb]; exact (h1.sd i x hx).1.blk
  have HCs : Hid (∀ W : World, W.heap[ob]? = some (.cells #[.int .i64 7, .int .i64 at', .int .i64 a, .int .i64 b, .string t, .slice lo n c] 41 (0, 0)) → W.heap[db]? = some (sdO xb rb) → W.cell? ⟨ob, 0, none⟩ = some (.int .i64 7) ∧ W.cell? ⟨ob, 2, none⟩ = some (.int .i64 a) ∧ W.cell? ⟨ob, 3, none⟩ = some (.int .i64 b) ∧ W.cell? ⟨db, 0, none⟩ = some (.pointer (some ⟨xb, 0, none⟩)) ∧ W.cell? ⟨db, 1, none⟩ = some (.pointer (some ⟨rb, 0, none⟩))) := fun W e1 e2 => by
    refine ⟨?_, ?_, ?_, ?_, ?_⟩
    · rw [cell_of e1]; rfl
    · rw [cell_of e1]; rfl
    · rw [cell_of e1]; rfl
    · rw [cell_of e2]; rfl
    · rw [cell_of e2]; rfl
  obtain ⟨k0, k2, k4, k5, k6⟩ := HCs.out W1 o1 d1
  have HP : Hid (∀ W, Fr [] W1 W → Calls Tryz.prog 39 #[.pointer (some ⟨xb, 0, none⟩), .int .i64 a] W (QC fC w0 B wb sv D q db xb rb ob (.cells #[.int .i64 7, .int .i64 at', .int .i64 a, .int .i64 b, .string t, .slice lo n c] 41 (0, 0)) 40 #[.pointer (some ⟨rb, 0, none⟩), .int .i64 a])) := fun W hW => by
    have hW2 := h1.same hW
    have oW : W.heap[ob]? = some (.cells #[.int .i64 7, .int .i64 at', .int .i64 a, .int .i64 b, .string t, .slice lo n c] 41 (0, 0)) := by rw [hW.block ob (Array.getElem?_eq_some_iff.1 o1).1 (by simp)]; exact o1
    rw [← hdb, ← hxb, ← hrb, ← hD]
    exact (p_release (hW2.sd i x hx).1 (hW2.sd i x hx).2 a hq).mono fun e w1 p => p.q hW2 hx oW
  rw [hdb, hD]
  clear h h1 hx o1 d1 hdb hxb hrb hD
  go_enter Tryz.func16, Tryz.ntmps16
  go_wp2
  clear hW1 hob
  go_region_held3 (fun w' => w'.cell? ⟨ob, 2, none⟩ = some (.int .i64 a) ∧ w'.cell? ⟨ob, 3, none⟩ = some (.int .i64 b) ∧ w'.cell? ⟨db, 0, none⟩ = some (.pointer (some ⟨xb, 0, none⟩)))
    (first
      | exact ⟨y2, y4, y5⟩
      | go_keep)
    (first
      | (go_at_call 39; refine (HP.out _ (by first | exact Fr.refl _ _ | exact (Fr.refl _ _).drew | exact (Fr.refl _ _).drewN _)).mono ?_; rintro e w4 ⟨z, rfl, b4, o4, hr4⟩; have H4 : Hid (∀ W, Fr [] w4 W → Calls Tryz.prog 40 #[.pointer (some ⟨rb, 0, none⟩), .int .i64 a] W fun e2 w2 => e2 = .returned (.int .i64 z) ∧ LP w0 B w2 wb sv D (q + 1) ∧ w2.heap[db]? = some (sdO xb rb) ∧ w2.heap[ob]? = some (.cells #[.int .i64 7, .int .i64 at', .int .i64 a, .int .i64 b, .string t, .slice lo n c] 41 (0, 0))) := hr4; obtain ⟨y0, y2, y4, y5, y6⟩ := HCs.out w4 o4 b4; rw [show fC z = Value.int .i64 z from rfl]; clear b4 o4 hr4))
  all_goals
    go_wp2
    go_region_held3 (fun w' => w'.cell? ⟨ob, 2, none⟩ = some (.int .i64 a) ∧ w'.cell? ⟨ob, 3, none⟩ = some (.int .i64 b) ∧ w'.cell? ⟨db, 1, none⟩ = some (.pointer (some ⟨rb, 0, none⟩)))
      (first
        | exact ⟨z2, z4, z6⟩
        | go_keep)
      (first
        | (go_at_call 40; refine (H4.out _ (by first | exact Fr.refl _ _ | exact (Fr.refl _ _).drew | exact (Fr.refl _ _).drewN _)).mono ?_; rintro e w5 ⟨rfl, l5, b5, o5⟩; have H5 : Hid (LP w0 B w5 wb sv D (q + 1)) := l5; obtain ⟨z0, z2, z4, z5, z6⟩ := HCs.out w5 o5 b5; clear l5 b5 o5))
    all_goals
      go_wp2
      go_ret
      exact ⟨rfl, H5.out⟩

set_option maxRecDepth 100000 in
set_option maxHeartbeats 1600000 in
theorem store_mark (w0 : World) (B wb : Nat) (sv tv : Value) (T : List ByteArray) (kv mv : Value) (sds : List SdR) (K M : List (Nat × Nat × Nat)) (q : Nat) (i : Nat) (x : SdR) (at' a b : Int) (t : ByteArray) (lo : Option Addr) (n c : Nat) (w : World) (h : LS w0 B w wb sv tv T kv mv sds K M q) (hx : sds[i]? = some x) (hq : q ≤ 2000000) :
    Calls Tryz.prog 16 #[.pointer (some ⟨wb, 0, none⟩), .pointer (some ⟨x.db, 0, none⟩), .agg #[.int .i64 9, .int .i64 at', .int .i64 a, .int .i64 b, .string t, .slice lo n c]] w fun e w' => e = .returned (.bool true) ∧ LP w0 B w' wb sv (sds.map SdR.db) (q + 1) := by
  obtain ⟨db, hdb⟩ : ∃ db, x.db = db := ⟨_, rfl⟩
  obtain ⟨xb, hxb⟩ : ∃ xb, x.b = xb := ⟨_, rfl⟩
  obtain ⟨rb, hrb⟩ : ∃ rb, x.rb = rb := ⟨_, rfl⟩
  obtain ⟨D, hD⟩ : ∃ D, sds.map SdR.db = D := ⟨_, rfl⟩
  obtain ⟨W1, hW1⟩ : ∃ W1, w.alloc (.cells #[.int .i64 9, .int .i64 at', .int .i64 a, .int .i64 b, .string t, .slice lo n c] 41) = W1 := ⟨_, rfl⟩
  obtain ⟨ob, hob⟩ : ∃ ob, w.heap.size = ob := ⟨_, rfl⟩
  have o1 : W1.heap[ob]? = some (.cells #[.int .i64 9, .int .i64 at', .int .i64 a, .int .i64 b, .string t, .slice lo n c] 41 (0, 0)) := by rw [← hW1, ← hob]; exact heap_alloc_new w _
  have h1 : LS w0 B W1 wb sv tv T kv mv sds K M q := h.same (by rw [← hW1]; exact (Fr.refl _ _).alloc _)
  have d1 : W1.heap[db]? = some (sdO xb rb) := by rw [← hdb, ← hxb, ← hrb]; exact (h1.sd i x hx).1.blk
  have HCs : Hid (∀ W : World, W.heap[ob]? = some (.cells #[.int .i64 9, .int .i64 at', .int .i64 a, .int .i64 b, .string t, .slice lo n c] 41 (0, 0)) → W.heap[db]? = some (sdO xb rb) → W.cell? ⟨ob, 0, none⟩ = some (.int .i64 9) ∧ W.cell? ⟨ob, 2, none⟩ = some (.int .i64 a) ∧ W.cell? ⟨ob, 3, none⟩ = some (.int .i64 b) ∧ W.cell? ⟨db, 0, none⟩ = some (.pointer (some ⟨xb, 0, none⟩)) ∧ W.cell? ⟨db, 1, none⟩ = some (.pointer (some ⟨rb, 0, none⟩))) := fun W e1 e2 => by
    refine ⟨?_, ?_, ?_, ?_, ?_⟩
    · rw [cell_of e1]; rfl
    · rw [cell_of e1]; rfl
    · rw [cell_of e1]; rfl
    · rw [cell_of e2]; rfl
    · rw [cell_of e2]; rfl
  obtain ⟨k0, k2, k4, k5, k6⟩ := HCs.out W1 o1 d1
  have HP : Hid (∀ W, Fr [] W1 W → Calls Tryz.prog 42 #[.pointer (some ⟨xb, 0, none⟩), .int .i64 a] W (QC fC w0 B wb sv D q db xb rb ob (.cells #[.int .i64 9, .int .i64 at', .int .i64 a, .int .i64 b, .string t, .slice lo n c] 41 (0, 0)) 43 #[.pointer (some ⟨rb, 0, none⟩), .int .i64 a])) := fun W hW => by
    have hW2 := h1.same hW
    have oW : W.heap[ob]? = some (.cells #[.int .i64 9, .int .i64 at', .int .i64 a, .int .i64 b, .string t, .slice lo n c] 41 (0, 0)) := by rw [hW.block ob (Array.getElem?_eq_some_iff.1 o1).1 (by simp)]; exact o1
    rw [← hdb, ← hxb, ← hrb, ← hD]
    exact (p_mark (hW2.sd i x hx).1 (hW2.sd i x hx).2 a hq).mono fun e w1 p => p.q hW2 hx oW
  rw [hdb, hD]
  clear h h1 hx o1 d1 hdb hxb hrb hD
  go_enter Tryz.func16, Tryz.ntmps16
  go_wp2
  clear hW1 hob
  go_region_held3 (fun w' => w'.cell? ⟨ob, 2, none⟩ = some (.int .i64 a) ∧ w'.cell? ⟨ob, 3, none⟩ = some (.int .i64 b) ∧ w'.cell? ⟨db, 0, none⟩ = some (.pointer (some ⟨xb, 0, none⟩)))
    (first
      | exact ⟨y2, y4, y5⟩
      | go_keep)
    (first
      | (go_at_call 42; refine (HP.out _ (by first | exact Fr.refl _ _ | exact (Fr.refl _ _).drew | exact (Fr.refl _ _).drewN _)).mono ?_; rintro e w4 ⟨z, rfl, b4, o4, hr4⟩; have H4 : Hid (∀ W, Fr [] w4 W → Calls Tryz.prog 43 #[.pointer (some ⟨rb, 0, none⟩), .int .i64 a] W fun e2 w2 => e2 = .returned (.int .i64 z) ∧ LP w0 B w2 wb sv D (q + 1) ∧ w2.heap[db]? = some (sdO xb rb) ∧ w2.heap[ob]? = some (.cells #[.int .i64 9, .int .i64 at', .int .i64 a, .int .i64 b, .string t, .slice lo n c] 41 (0, 0))) := hr4; obtain ⟨y0, y2, y4, y5, y6⟩ := HCs.out w4 o4 b4; rw [show fC z = Value.int .i64 z from rfl]; clear b4 o4 hr4))
  all_goals
    go_wp2
    go_region_held3 (fun w' => w'.cell? ⟨ob, 2, none⟩ = some (.int .i64 a) ∧ w'.cell? ⟨ob, 3, none⟩ = some (.int .i64 b) ∧ w'.cell? ⟨db, 1, none⟩ = some (.pointer (some ⟨rb, 0, none⟩)))
      (first
        | exact ⟨z2, z4, z6⟩
        | go_keep)
      (first
        | (go_at_call 43; refine (H4.out _ (by first | exact Fr.refl _ _ | exact (Fr.refl _ _).drew | exact (Fr.refl _ _).drewN _)).mono ?_; rintro e w5 ⟨rfl, l5, b5, o5⟩; have H5 : Hid (LP w0 B w5 wb sv D (q + 1)) := l5; obtain ⟨z0, z2, z4, z5, z6⟩ := HCs.out w5 o5 b5; clear l5 b5 o5))
    all_goals
      go_wp2
      go_ret
      exact ⟨rfl, H5.out⟩

set_option maxRecDepth 100000 in
set_option maxHeartbeats 1600000 in
theorem store_unmark (w0 : World) (B wb : Nat) (sv tv : Value) (T : List ByteArray) (kv mv : Value) (sds : List SdR) (K M : List (Nat × Nat × Nat)) (q : Nat) (i : Nat) (x : SdR) (at' a b : Int) (t : ByteArray) (lo : Option Addr) (n c : Nat) (w : World) (h : LS w0 B w wb sv tv T kv mv sds K M q) (hx : sds[i]? = some x) (hq : q ≤ 2000000) :
    Calls Tryz.prog 16 #[.pointer (some ⟨wb, 0, none⟩), .pointer (some ⟨x.db, 0, none⟩), .agg #[.int .i64 10, .int .i64 at', .int .i64 a, .int .i64 b, .string t, .slice lo n c]] w fun e w' => e = .returned (.bool true) ∧ LP w0 B w' wb sv (sds.map SdR.db) (q + 1) := by
  obtain ⟨db, hdb⟩ : ∃ db, x.db = db := ⟨_, rfl⟩
  obtain ⟨xb, hxb⟩ : ∃ xb, x.b = xb := ⟨_, rfl⟩
  obtain ⟨rb, hrb⟩ : ∃ rb, x.rb = rb := ⟨_, rfl⟩
  obtain ⟨D, hD⟩ : ∃ D, sds.map SdR.db = D := ⟨_, rfl⟩
  obtain ⟨W1, hW1⟩ : ∃ W1, w.alloc (.cells #[.int .i64 10, .int .i64 at', .int .i64 a, .int .i64 b, .string t, .slice lo n c] 41) = W1 := ⟨_, rfl⟩
  obtain ⟨ob, hob⟩ : ∃ ob, w.heap.size = ob := ⟨_, rfl⟩
  have o1 : W1.heap[ob]? = some (.cells #[.int .i64 10, .int .i64 at', .int .i64 a, .int .i64 b, .string t, .slice lo n c] 41 (0, 0)) := by rw [← hW1, ← hob]; exact heap_alloc_new w _
  have h1 : LS w0 B W1 wb sv tv T kv mv sds K M q := h.same (by rw [← hW1]; exact (Fr.refl _ _).alloc _)
  have d1 : W1.heap[db]? = some (sdO xb rb) := by rw [← hdb, ← hxb, ← hrb]; exact (h1.sd i x hx).1.blk
  have HCs : Hid (∀ W : World, W.heap[ob]? = some (.cells #[.int .i64 10, .int .i64 at', .int .i64 a, .int .i64 b, .string t, .slice lo n c] 41 (0, 0)) → W.heap[db]? = some (sdO xb rb) → W.cell? ⟨ob, 0, none⟩ = some (.int .i64 10) ∧ W.cell? ⟨ob, 2, none⟩ = some (.int .i64 a) ∧ W.cell? ⟨ob, 3, none⟩ = some (.int .i64 b) ∧ W.cell? ⟨db, 0, none⟩ = some (.pointer (some ⟨xb, 0, none⟩)) ∧ W.cell? ⟨db, 1, none⟩ = some (.pointer (some ⟨rb, 0, none⟩))) := fun W e1 e2 => by
    refine ⟨?_, ?_, ?_, ?_, ?_⟩
    · rw [cell_of e1]; rfl
    · rw [cell_of e1]; rfl
    · rw [cell_of e1]; rfl
    · rw [cell_of e2]; rfl
    · rw [cell_of e2]; rfl
  obtain ⟨k0, k2, k4, k5, k6⟩ := HCs.out W1 o1 d1
  have HP : Hid (∀ W, Fr [] W1 W → Calls Tryz.prog 44 #[.pointer (some ⟨xb, 0, none⟩), .int .i64 a] W (QC fC w0 B wb sv D q db xb rb ob (.cells #[.int .i64 10, .int .i64 at', .int .i64 a, .int .i64 b, .string t, .slice lo n c] 41 (0, 0)) 45 #[.pointer (some ⟨rb, 0, none⟩), .int .i64 a])) := fun W hW => by
    have hW2 := h1.same hW
    have oW : W.heap[ob]? = some (.cells #[.int .i64 10, .int .i64 at', .int .i64 a, .int .i64 b, .string t, .slice lo n c] 41 (0, 0)) := by rw [hW.block ob (Array.getElem?_eq_some_iff.1 o1).1 (by simp)]; exact o1
    rw [← hdb, ← hxb, ← hrb, ← hD]
    exact (p_unmark (hW2.sd i x hx).1 (hW2.sd i x hx).2 a hq).mono fun e w1 p => p.q hW2 hx oW
  rw [hdb, hD]
  clear h h1 hx o1 d1 hdb hxb hrb hD
  go_enter Tryz.func16, Tryz.ntmps16
  go_wp2
  clear hW1 hob
  go_region_held3 (fun w' => w'.cell? ⟨ob, 2, none⟩ = some (.int .i64 a) ∧ w'.cell? ⟨ob, 3, none⟩ = some (.int .i64 b) ∧ w'.cell? ⟨db, 0, none⟩ = some (.pointer (some ⟨xb, 0, none⟩)))
    (first
      | exact ⟨y2, y4, y5⟩
      | go_keep)
    (first
      | (go_at_call 44; refine (HP.out _ (by first | exact Fr.refl _ _ | exact (Fr.refl _ _).drew | exact (Fr.refl _ _).drewN _)).mono ?_; rintro e w4 ⟨z, rfl, b4, o4, hr4⟩; have H4 : Hid (∀ W, Fr [] w4 W → Calls Tryz.prog 45 #[.pointer (some ⟨rb, 0, none⟩), .int .i64 a] W fun e2 w2 => e2 = .returned (.int .i64 z) ∧ LP w0 B w2 wb sv D (q + 1) ∧ w2.heap[db]? = some (sdO xb rb) ∧ w2.heap[ob]? = some (.cells #[.int .i64 10, .int .i64 at', .int .i64 a, .int .i64 b, .string t, .slice lo n c] 41 (0, 0))) := hr4; obtain ⟨y0, y2, y4, y5, y6⟩ := HCs.out w4 o4 b4; rw [show fC z = Value.int .i64 z from rfl]; clear b4 o4 hr4))
  all_goals
    go_wp2
    go_region_held3 (fun w' => w'.cell? ⟨ob, 2, none⟩ = some (.int .i64 a) ∧ w'.cell? ⟨ob, 3, none⟩ = some (.int .i64 b) ∧ w'.cell? ⟨db, 1, none⟩ = some (.pointer (some ⟨rb, 0, none⟩)))
      (first
        | exact ⟨z2, z4, z6⟩
        | go_keep)
      (first
        | (go_at_call 45; refine (H4.out _ (by first | exact Fr.refl _ _ | exact (Fr.refl _ _).drew | exact (Fr.refl _ _).drewN _)).mono ?_; rintro e w5 ⟨rfl, l5, b5, o5⟩; have H5 : Hid (LP w0 B w5 wb sv D (q + 1)) := l5; obtain ⟨z0, z2, z4, z5, z6⟩ := HCs.out w5 o5 b5; clear l5 b5 o5))
    all_goals
      go_wp2
      go_ret
      exact ⟨rfl, H5.out⟩
end Go.Proofs.YthdhegmlknpllaaGreat
