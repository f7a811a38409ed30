import Derived.Test.YthdhegmlknpllaaGreatM45
import Derived.Test.YthdhegmlknpllaaGreatM49
import Derived.Test.YthdhegmlknpllaaGreatM52
import Derived.Test.YthdhegmlknpllaaGreatM53
namespace Go.Proofs.YthdhegmlknpllaaGreat
open Go.RowKit Go.Maps Go.MuLone
set_option maxRecDepth 100000 in
set_option maxHeartbeats 1600000 in
theorem store_read (w0 : World) (B wb : Nat) (sv tv : Value) (T : List ByteArray) (kv mv : Value) (sds : List SdR) (K M : List (Nat × Nat × Nat)) (q : Nat) (i : Nat) (x : SdR) (at' a b : Int) (t : ByteArray) (lo : Option Addr) (n c : Nat) (w : World) (h : LS w0 none B w wb sv tv T kv mv sds K M q) (hx : sds[i]? = some x)  :
  Calls Tryz.prog 16 #[.pointer (some ⟨wb, 0, none⟩), .pointer (some ⟨x.db, 0, none⟩), .agg #[.int .i64 2, .int .i64 at', .int .i64 a, .int .i64 b, .string t, .slice lo n c]] w fun e w' => e = .returned (.bool true) ∧ LP w0 (some i) B w' wb sv (sds.map SdR.db) (q + 1) := by
 obtain ⟨db, hdb⟩ : ∃ db, x.db = db := ⟨_, rfl⟩
 obtain ⟨xb, hxb⟩ : ∃ xb, x.b = xb := ⟨_, rfl⟩
 obtain ⟨rb, hrb⟩ : ∃ rb, x.rb = rb := ⟨_, rfl⟩
 obtain ⟨lnv, hlnv⟩ : ∃ v, x.lnv = v := ⟨_, rfl⟩
 obtain ⟨D, hD⟩ : ∃ D, sds.map SdR.db = D := ⟨_, rfl⟩
 obtain ⟨W1, hW1⟩ : ∃ W1, w.alloc (.cells #[.int .i64 2, .int .i64 at', .int .i64 a, .int .i64 b, .string t, .slice lo n c] 41) = W1 := ⟨_, rfl⟩
 obtain ⟨ob, hob⟩ : ∃ ob, w.heap.size = ob := ⟨_, rfl⟩
 have o1 : W1.heap[ob]? = some (.cells #[.int .i64 2, .int .i64 at', .int .i64 a, .int .i64 b, .string t, .slice lo n c] 41 (0, 0)) := by rw [← hW1, ← hob]; exact heap_alloc_new w _
 have h1 : LS w0 none B W1 wb sv tv T kv mv sds K M q := h.same (by rw [← hW1]; exact (Fr.refl _ _).alloc _)
 have d1 : W1.heap[db]? = some (sdO xb rb lnv) := by rw [← hdb, ← hxb, ← hrb, ← hlnv]; exact (h1.sd i x hx).1.blk
 have HCs : Hid (∀ W : World, W.heap[ob]? = some (.cells #[.int .i64 2, .int .i64 at', .int .i64 a, .int .i64 b, .string t, .slice lo n c] 41 (0, 0)) → W.heap[db]? = some (sdO xb rb lnv) → W.cell? ⟨ob, 0, none⟩ = some (.int .i64 2) ∧ W.cell? ⟨ob, 2, none⟩ = some (.int .i64 a) ∧ W.cell? ⟨ob, 3, none⟩ = some (.int .i64 b) ∧ W.cell? ⟨db, 0, none⟩ = some (.pointer (some ⟨xb, 0, none⟩)) ∧ W.cell? ⟨db, 1, none⟩ = some (.pointer (some ⟨rb, 0, none⟩))) := fun W e1 e2 => by
  refine ⟨?_, ?_, ?_, ?_, ?_⟩
  · rw [cell_of e1]; rfl
  · rw [cell_of e1]; rfl
  · rw [cell_of e1]; rfl
  · rw [cell_of e2]; rfl
  · rw [cell_of e2]; rfl
 obtain ⟨k0, k2, k4, k5, k6⟩ := HCs.out W1 o1 d1
 have HP : Hid (∀ W, Fr [] W1 W → Calls Tryz.prog 27 #[.pointer (some ⟨xb, 0, none⟩), .int .i64 a] W (QC fT w0 i lnv B wb sv D q db xb rb ob (.cells #[.int .i64 2, .int .i64 at', .int .i64 a, .int .i64 b, .string t, .slice lo n c] 41 (0, 0)) 28 #[.pointer (some ⟨rb, 0, none⟩), .int .i64 a])) := fun W hW => by
  have hW2 := h1.same hW
  have oW : W.heap[ob]? = some (.cells #[.int .i64 2, .int .i64 at', .int .i64 a, .int .i64 b, .string t, .slice lo n c] 41 (0, 0)) := by rw [hW.block ob (Array.getElem?_eq_some_iff.1 o1).1 (by simp)]; exact o1
  rw [← hdb, ← hxb, ← hrb, ← hlnv, ← hD]
  exact (p_read (hW2.sd i x hx).1 (hW2.sd i x hx).2 a).mono fun e w1 p => p.q hW2 hx oW
 rw [hdb, hD]
 clear h h1 hx o1 d1 hdb hxb hrb hlnv hD
 go_enter Tryz.func16, Tryz.ntmps16
 go_wp2
 clear hW1 hob
 go_region_held3 (fun w' => w'.cell? ⟨ob, 2, none⟩ = some (.int .i64 a) ∧ w'.cell? ⟨ob, 3, none⟩ = some (.int .i64 b) ∧ w'.cell? ⟨db, 0, none⟩ = some (.pointer (some ⟨xb, 0, none⟩)))
  (first
   | exact ⟨y2, y4, y5⟩
   | go_keep)
  (first
   | (go_at_call 27; refine (HP.out _ Fr.dd).mono ?_; rintro e w4 ⟨⟨u, z⟩, rfl, b4, o4, hr4⟩; have H4 : Hid (∀ W, Fr [] w4 W → Calls Tryz.prog 28 #[.pointer (some ⟨rb, 0, none⟩), .int .i64 a] W fun e2 w2 => e2 = .returned (.tuple #[.string u, .int .i64 z]) ∧ LP w0 (some i) B w2 wb sv D (q + 1) ∧ w2.heap[db]? = some (sdO xb rb lnv) ∧ w2.heap[ob]? = some (.cells #[.int .i64 2, .int .i64 at', .int .i64 a, .int .i64 b, .string t, .slice lo n c] 41 (0, 0))) := hr4; obtain ⟨y0, y2, y4, y5, y6⟩ := HCs.out w4 o4 b4; rw [show fT (u, z) = Value.tuple #[.string u, .int .i64 z] from rfl]; clear b4 o4 hr4))
 all_goals
  go_wp2
  go_region_held3 (fun w' => w'.cell? ⟨ob, 2, none⟩ = some (.int .i64 a) ∧ w'.cell? ⟨ob, 3, none⟩ = some (.int .i64 b) ∧ w'.cell? ⟨db, 1, none⟩ = some (.pointer (some ⟨rb, 0, none⟩)))
   (first
    | exact ⟨z2, z4, z6⟩
    | go_keep)
   (first
    | (go_at_call 28; refine (H4.out _ Fr.dd).mono ?_; rintro e w5 ⟨rfl, l5, b5, o5⟩; have H5 : Hid (LP w0 (some i) B w5 wb sv D (q + 1)) := l5; obtain ⟨z0, z2, z4, z5, z6⟩ := HCs.out w5 o5 b5; clear l5 b5 o5))
  all_goals
   go_wp2
   go_ret
   exact ⟨rfl, H5.out⟩
set_option maxRecDepth 100000 in
set_option maxHeartbeats 1600000 in
theorem store_snap (w0 : World) (B wb : Nat) (sv tv : Value) (T : List ByteArray) (kv mv : Value) (sds : List SdR) (K M : List (Nat × Nat × Nat)) (q : Nat) (i : Nat) (x : SdR) (at' a b : Int) (t : ByteArray) (lo : Option Addr) (n c : Nat) (w : World) (h : LS w0 none B w wb sv tv T kv mv sds K M q) (hx : sds[i]? = some x) (hq : q ≤ 2000000) :
  Calls Tryz.prog 16 #[.pointer (some ⟨wb, 0, none⟩), .pointer (some ⟨x.db, 0, none⟩), .agg #[.int .i64 3, .int .i64 at', .int .i64 a, .int .i64 b, .string t, .slice lo n c]] w fun e w' => e = .returned (.bool true) ∧ LP w0 (some i) B w' wb sv (sds.map SdR.db) (q + 1) := by
 obtain ⟨db, hdb⟩ : ∃ db, x.db = db := ⟨_, rfl⟩
 obtain ⟨xb, hxb⟩ : ∃ xb, x.b = xb := ⟨_, rfl⟩
 obtain ⟨rb, hrb⟩ : ∃ rb, x.rb = rb := ⟨_, rfl⟩
 obtain ⟨lnv, hlnv⟩ : ∃ v, x.lnv = v := ⟨_, rfl⟩
 obtain ⟨D, hD⟩ : ∃ D, sds.map SdR.db = D := ⟨_, rfl⟩
 obtain ⟨W1, hW1⟩ : ∃ W1, w.alloc (.cells #[.int .i64 3, .int .i64 at', .int .i64 a, .int .i64 b, .string t, .slice lo n c] 41) = W1 := ⟨_, rfl⟩
 obtain ⟨ob, hob⟩ : ∃ ob, w.heap.size = ob := ⟨_, rfl⟩
 have o1 : W1.heap[ob]? = some (.cells #[.int .i64 3, .int .i64 at', .int .i64 a, .int .i64 b, .string t, .slice lo n c] 41 (0, 0)) := by rw [← hW1, ← hob]; exact heap_alloc_new w _
 have h1 : LS w0 none B W1 wb sv tv T kv mv sds K M q := h.same (by rw [← hW1]; exact (Fr.refl _ _).alloc _)
 have d1 : W1.heap[db]? = some (sdO xb rb lnv) := by rw [← hdb, ← hxb, ← hrb, ← hlnv]; exact (h1.sd i x hx).1.blk
 have HCs : Hid (∀ W : World, W.heap[ob]? = some (.cells #[.int .i64 3, .int .i64 at', .int .i64 a, .int .i64 b, .string t, .slice lo n c] 41 (0, 0)) → W.heap[db]? = some (sdO xb rb lnv) → W.cell? ⟨ob, 0, none⟩ = some (.int .i64 3) ∧ W.cell? ⟨ob, 2, none⟩ = some (.int .i64 a) ∧ W.cell? ⟨ob, 3, none⟩ = some (.int .i64 b) ∧ W.cell? ⟨db, 0, none⟩ = some (.pointer (some ⟨xb, 0, none⟩)) ∧ W.cell? ⟨db, 1, none⟩ = some (.pointer (some ⟨rb, 0, none⟩))) := fun W e1 e2 => by
  refine ⟨?_, ?_, ?_, ?_, ?_⟩
  · rw [cell_of e1]; rfl
  · rw [cell_of e1]; rfl
  · rw [cell_of e1]; rfl
  · rw [cell_of e2]; rfl
  · rw [cell_of e2]; rfl
 obtain ⟨k0, k2, k4, k5, k6⟩ := HCs.out W1 o1 d1
 have HP : Hid (∀ W, Fr [] W1 W → Calls Tryz.prog 29 #[.pointer (some ⟨xb, 0, none⟩), .int .i64 a] W (QC fI w0 i lnv B wb sv D q db xb rb ob (.cells #[.int .i64 3, .int .i64 at', .int .i64 a, .int .i64 b, .string t, .slice lo n c] 41 (0, 0)) 30 #[.pointer (some ⟨rb, 0, none⟩), .int .i64 a])) := fun W hW => by
  have hW2 := h1.same hW
  have oW : W.heap[ob]? = some (.cells #[.int .i64 3, .int .i64 at', .int .i64 a, .int .i64 b, .string t, .slice lo n c] 41 (0, 0)) := by rw [hW.block ob (Array.getElem?_eq_some_iff.1 o1).1 (by simp)]; exact o1
  rw [← hdb, ← hxb, ← hrb, ← hlnv, ← hD]
  exact (p_snap (hW2.sd i x hx).1 (hW2.sd i x hx).2 a hq).mono fun e w1 p => p.q hW2 hx oW
 rw [hdb, hD]
 clear h h1 hx o1 d1 hdb hxb hrb hlnv hD
 go_enter Tryz.func16, Tryz.ntmps16
 go_wp2
 clear hW1 hob
 go_region_held3 (fun w' => w'.cell? ⟨ob, 2, none⟩ = some (.int .i64 a) ∧ w'.cell? ⟨ob, 3, none⟩ = some (.int .i64 b) ∧ w'.cell? ⟨db, 0, none⟩ = some (.pointer (some ⟨xb, 0, none⟩)))
  (first
   | exact ⟨y2, y4, y5⟩
   | go_keep)
  (first
   | (go_at_call 29; refine (HP.out _ Fr.dd).mono ?_; rintro e w4 ⟨⟨u, z⟩, rfl, b4, o4, hr4⟩; have H4 : Hid (∀ W, Fr [] w4 W → Calls Tryz.prog 30 #[.pointer (some ⟨rb, 0, none⟩), .int .i64 a] W fun e2 w2 => e2 = .returned (.tuple #[.int .i64 u, .int .i64 z]) ∧ LP w0 (some i) B w2 wb sv D (q + 1) ∧ w2.heap[db]? = some (sdO xb rb lnv) ∧ w2.heap[ob]? = some (.cells #[.int .i64 3, .int .i64 at', .int .i64 a, .int .i64 b, .string t, .slice lo n c] 41 (0, 0))) := hr4; obtain ⟨y0, y2, y4, y5, y6⟩ := HCs.out w4 o4 b4; rw [show fI (u, z) = Value.tuple #[.int .i64 u, .int .i64 z] from rfl]; clear b4 o4 hr4))
 all_goals
  go_wp2
  go_region_held3 (fun w' => w'.cell? ⟨ob, 2, none⟩ = some (.int .i64 a) ∧ w'.cell? ⟨ob, 3, none⟩ = some (.int .i64 b) ∧ w'.cell? ⟨db, 1, none⟩ = some (.pointer (some ⟨rb, 0, none⟩)))
   (first
    | exact ⟨z2, z4, z6⟩
    | go_keep)
   (first
    | (go_at_call 30; refine (H4.out _ Fr.dd).mono ?_; rintro e w5 ⟨rfl, l5, b5, o5⟩; have H5 : Hid (LP w0 (some i) B w5 wb sv D (q + 1)) := l5; obtain ⟨z0, z2, z4, z5, z6⟩ := HCs.out w5 o5 b5; clear l5 b5 o5))
  all_goals
   go_wp2
   go_ret
   exact ⟨rfl, H5.out⟩
set_option maxRecDepth 100000 in
set_option maxHeartbeats 1600000 in
theorem store_at (w0 : World) (B wb : Nat) (sv tv : Value) (T : List ByteArray) (kv mv : Value) (sds : List SdR) (K M : List (Nat × Nat × Nat)) (q : Nat) (i : Nat) (x : SdR) (at' a b : Int) (t : ByteArray) (lo : Option Addr) (n c : Nat) (w : World) (h : LS w0 none B w wb sv tv T kv mv sds K M q) (hx : sds[i]? = some x) (ha : In64 a) :
  Calls Tryz.prog 16 #[.pointer (some ⟨wb, 0, none⟩), .pointer (some ⟨x.db, 0, none⟩), .agg #[.int .i64 5, .int .i64 at', .int .i64 a, .int .i64 b, .string t, .slice lo n c]] w fun e w' => e = .returned (.bool true) ∧ LP w0 (some i) B w' wb sv (sds.map SdR.db) (q + 1) := by
 obtain ⟨db, hdb⟩ : ∃ db, x.db = db := ⟨_, rfl⟩
 obtain ⟨xb, hxb⟩ : ∃ xb, x.b = xb := ⟨_, rfl⟩
 obtain ⟨rb, hrb⟩ : ∃ rb, x.rb = rb := ⟨_, rfl⟩
 obtain ⟨lnv, hlnv⟩ : ∃ v, x.lnv = v := ⟨_, rfl⟩
 obtain ⟨D, hD⟩ : ∃ D, sds.map SdR.db = D := ⟨_, rfl⟩
 obtain ⟨W1, hW1⟩ : ∃ W1, w.alloc (.cells #[.int .i64 5, .int .i64 at', .int .i64 a, .int .i64 b, .string t, .slice lo n c] 41) = W1 := ⟨_, rfl⟩
 obtain ⟨ob, hob⟩ : ∃ ob, w.heap.size = ob := ⟨_, rfl⟩
 have o1 : W1.heap[ob]? = some (.cells #[.int .i64 5, .int .i64 at', .int .i64 a, .int .i64 b, .string t, .slice lo n c] 41 (0, 0)) := by rw [← hW1, ← hob]; exact heap_alloc_new w _
 have h1 : LS w0 none B W1 wb sv tv T kv mv sds K M q := h.same (by rw [← hW1]; exact (Fr.refl _ _).alloc _)
 have d1 : W1.heap[db]? = some (sdO xb rb lnv) := by rw [← hdb, ← hxb, ← hrb, ← hlnv]; exact (h1.sd i x hx).1.blk
 have HCs : Hid (∀ W : World, W.heap[ob]? = some (.cells #[.int .i64 5, .int .i64 at', .int .i64 a, .int .i64 b, .string t, .slice lo n c] 41 (0, 0)) → W.heap[db]? = some (sdO xb rb lnv) → W.cell? ⟨ob, 0, none⟩ = some (.int .i64 5) ∧ W.cell? ⟨ob, 2, none⟩ = some (.int .i64 a) ∧ W.cell? ⟨ob, 3, none⟩ = some (.int .i64 b) ∧ W.cell? ⟨db, 0, none⟩ = some (.pointer (some ⟨xb, 0, none⟩)) ∧ W.cell? ⟨db, 1, none⟩ = some (.pointer (some ⟨rb, 0, none⟩))) := fun W e1 e2 => by
  refine ⟨?_, ?_, ?_, ?_, ?_⟩
  · rw [cell_of e1]; rfl
  · rw [cell_of e1]; rfl
  · rw [cell_of e1]; rfl
  · rw [cell_of e2]; rfl
  · rw [cell_of e2]; rfl
 obtain ⟨k0, k2, k4, k5, k6⟩ := HCs.out W1 o1 d1
 have HP : Hid (∀ W, Fr [] W1 W → Calls Tryz.prog 35 #[.pointer (some ⟨xb, 0, none⟩), .int .i64 a, .int .i64 b] W (QC fT w0 i lnv B wb sv D q db xb rb ob (.cells #[.int .i64 5, .int .i64 at', .int .i64 a, .int .i64 b, .string t, .slice lo n c] 41 (0, 0)) 36 #[.pointer (some ⟨rb, 0, none⟩), .int .i64 a, .int .i64 b])) := fun W hW => by
  have hW2 := h1.same hW
  have oW : W.heap[ob]? = some (.cells #[.int .i64 5, .int .i64 at', .int .i64 a, .int .i64 b, .string t, .slice lo n c] 41 (0, 0)) := by rw [hW.block ob (Array.getElem?_eq_some_iff.1 o1).1 (by simp)]; exact o1
  rw [← hdb, ← hxb, ← hrb, ← hlnv, ← hD]
  exact (p_at (hW2.sd i x hx).1 (hW2.sd i x hx).2 a b ha).mono fun e w1 p => p.q hW2 hx oW
 rw [hdb, hD]
 clear h h1 hx o1 d1 hdb hxb hrb hlnv hD
 go_enter Tryz.func16, Tryz.ntmps16
 go_wp2
 clear hW1 hob
 go_region_held3 (fun w' => w'.cell? ⟨ob, 2, none⟩ = some (.int .i64 a) ∧ w'.cell? ⟨ob, 3, none⟩ = some (.int .i64 b) ∧ w'.cell? ⟨db, 0, none⟩ = some (.pointer (some ⟨xb, 0, none⟩)))
  (first
   | exact ⟨y2, y4, y5⟩
   | go_keep)
  (first
   | (go_at_call 35; refine (HP.out _ Fr.dd).mono ?_; rintro e w4 ⟨⟨u, z⟩, rfl, b4, o4, hr4⟩; have H4 : Hid (∀ W, Fr [] w4 W → Calls Tryz.prog 36 #[.pointer (some ⟨rb, 0, none⟩), .int .i64 a, .int .i64 b] W fun e2 w2 => e2 = .returned (.tuple #[.string u, .int .i64 z]) ∧ LP w0 (some i) B w2 wb sv D (q + 1) ∧ w2.heap[db]? = some (sdO xb rb lnv) ∧ w2.heap[ob]? = some (.cells #[.int .i64 5, .int .i64 at', .int .i64 a, .int .i64 b, .string t, .slice lo n c] 41 (0, 0))) := hr4; obtain ⟨y0, y2, y4, y5, y6⟩ := HCs.out w4 o4 b4; rw [show fT (u, z) = Value.tuple #[.string u, .int .i64 z] from rfl]; clear b4 o4 hr4))
 all_goals
  go_wp2
  go_region_held3 (fun w' => w'.cell? ⟨ob, 2, none⟩ = some (.int .i64 a) ∧ w'.cell? ⟨ob, 3, none⟩ = some (.int .i64 b) ∧ w'.cell? ⟨db, 1, none⟩ = some (.pointer (some ⟨rb, 0, none⟩)))
   (first
    | exact ⟨z2, z4, z6⟩
    | go_keep)
   (first
    | (go_at_call 36; refine (H4.out _ Fr.dd).mono ?_; rintro e w5 ⟨rfl, l5, b5, o5⟩; have H5 : Hid (LP w0 (some i) B w5 wb sv D (q + 1)) := l5; obtain ⟨z0, z2, z4, z5, z6⟩ := HCs.out w5 o5 b5; clear l5 b5 o5))
  all_goals
   go_wp2
   go_ret
   exact ⟨rfl, H5.out⟩
set_option maxRecDepth 100000 in
set_option maxHeartbeats 1600000 in
theorem store_hold (w0 : World) (B wb : Nat) (sv tv : Value) (T : List ByteArray) (kv mv : Value) (sds : List SdR) (K M : List (Nat × Nat × Nat)) (q : Nat) (i : Nat) (x : SdR) (at' a b : Int) (t : ByteArray) (lo : Option Addr) (n c : Nat) (w : World) (h : LS w0 none B w wb sv tv T kv mv sds K M q) (hx : sds[i]? = some x) (hq : q ≤ 2000000) :
  Calls Tryz.prog 16 #[.pointer (some ⟨wb, 0, none⟩), .pointer (some ⟨x.db, 0, none⟩), .agg #[.int .i64 6, .int .i64 at', .int .i64 a, .int .i64 b, .string t, .slice lo n c]] w fun e w' => e = .returned (.bool true) ∧ LP w0 (some i) B w' wb sv (sds.map SdR.db) (q + 1) := by
 obtain ⟨db, hdb⟩ : ∃ db, x.db = db := ⟨_, rfl⟩
 obtain ⟨xb, hxb⟩ : ∃ xb, x.b = xb := ⟨_, rfl⟩
 obtain ⟨rb, hrb⟩ : ∃ rb, x.rb = rb := ⟨_, rfl⟩
 obtain ⟨lnv, hlnv⟩ : ∃ v, x.lnv = v := ⟨_, rfl⟩
 obtain ⟨D, hD⟩ : ∃ D, sds.map SdR.db = D := ⟨_, rfl⟩
 obtain ⟨W1, hW1⟩ : ∃ W1, w.alloc (.cells #[.int .i64 6, .int .i64 at', .int .i64 a, .int .i64 b, .string t, .slice lo n c] 41) = W1 := ⟨_, rfl⟩
 obtain ⟨ob, hob⟩ : ∃ ob, w.heap.size = ob := ⟨_, rfl⟩
 have o1 : W1.heap[ob]? = some (.cells #[.int .i64 6, .int .i64 at', .int .i64 a, .int .i64 b, .string t, .slice lo n c] 41 (0, 0)) := by rw [← hW1, ← hob]; exact heap_alloc_new w _
 have h1 : LS w0 none B W1 wb sv tv T kv mv sds K M q := h.same (by rw [← hW1]; exact (Fr.refl _ _).alloc _)
 have d1 : W1.heap[db]? = some (sdO xb rb lnv) := by rw [← hdb, ← hxb, ← hrb, ← hlnv]; exact (h1.sd i x hx).1.blk
 have HCs : Hid (∀ W : World, W.heap[ob]? = some (.cells #[.int .i64 6, .int .i64 at', .int .i64 a, .int .i64 b, .string t, .slice lo n c] 41 (0, 0)) → W.heap[db]? = some (sdO xb rb lnv) → W.cell? ⟨ob, 0, none⟩ = some (.int .i64 6) ∧ W.cell? ⟨ob, 2, none⟩ = some (.int .i64 a) ∧ W.cell? ⟨ob, 3, none⟩ = some (.int .i64 b) ∧ W.cell? ⟨db, 0, none⟩ = some (.pointer (some ⟨xb, 0, none⟩)) ∧ W.cell? ⟨db, 1, none⟩ = some (.pointer (some ⟨rb, 0, none⟩))) := fun W e1 e2 => by
  refine ⟨?_, ?_, ?_, ?_, ?_⟩
  · rw [cell_of e1]; rfl
  · rw [cell_of e1]; rfl
  · rw [cell_of e1]; rfl
  · rw [cell_of e2]; rfl
  · rw [cell_of e2]; rfl
 obtain ⟨k0, k2, k4, k5, k6⟩ := HCs.out W1 o1 d1
 have HP : Hid (∀ W, Fr [] W1 W → Calls Tryz.prog 37 #[.pointer (some ⟨xb, 0, none⟩), .int .i64 a] W (QC fC w0 i lnv B wb sv D q db xb rb ob (.cells #[.int .i64 6, .int .i64 at', .int .i64 a, .int .i64 b, .string t, .slice lo n c] 41 (0, 0)) 38 #[.pointer (some ⟨rb, 0, none⟩), .int .i64 a])) := fun W hW => by
  have hW2 := h1.same hW
  have oW : W.heap[ob]? = some (.cells #[.int .i64 6, .int .i64 at', .int .i64 a, .int .i64 b, .string t, .slice lo n c] 41 (0, 0)) := by rw [hW.block ob (Array.getElem?_eq_some_iff.1 o1).1 (by simp)]; exact o1
  rw [← hdb, ← hxb, ← hrb, ← hlnv, ← hD]
  exact (p_hold (hW2.sd i x hx).1 (hW2.sd i x hx).2 a hq).mono fun e w1 p => p.q hW2 hx oW
 rw [hdb, hD]
 clear h h1 hx o1 d1 hdb hxb hrb hlnv hD
 go_enter Tryz.func16, Tryz.ntmps16
 go_wp2
 clear hW1 hob
 go_region_held3 (fun w' => w'.cell? ⟨ob, 2, none⟩ = some (.int .i64 a) ∧ w'.cell? ⟨ob, 3, none⟩ = some (.int .i64 b) ∧ w'.cell? ⟨db, 0, none⟩ = some (.pointer (some ⟨xb, 0, none⟩)))
  (first
   | exact ⟨y2, y4, y5⟩
   | go_keep)
  (first
   | (go_at_call 37; refine (HP.out _ Fr.dd).mono ?_; rintro e w4 ⟨z, rfl, b4, o4, hr4⟩; have H4 : Hid (∀ W, Fr [] w4 W → Calls Tryz.prog 38 #[.pointer (some ⟨rb, 0, none⟩), .int .i64 a] W fun e2 w2 => e2 = .returned (.int .i64 z) ∧ LP w0 (some i) B w2 wb sv D (q + 1) ∧ w2.heap[db]? = some (sdO xb rb lnv) ∧ w2.heap[ob]? = some (.cells #[.int .i64 6, .int .i64 at', .int .i64 a, .int .i64 b, .string t, .slice lo n c] 41 (0, 0))) := hr4; obtain ⟨y0, y2, y4, y5, y6⟩ := HCs.out w4 o4 b4; rw [show fC z = Value.int .i64 z from rfl]; clear b4 o4 hr4))
 all_goals
  go_wp2
  go_region_held3 (fun w' => w'.cell? ⟨ob, 2, none⟩ = some (.int .i64 a) ∧ w'.cell? ⟨ob, 3, none⟩ = some (.int .i64 b) ∧ w'.cell? ⟨db, 1, none⟩ = some (.pointer (some ⟨rb, 0, none⟩)))
   (first
    | exact ⟨z2, z4, z6⟩
    | go_keep)
   (first
    | (go_at_call 38; refine (H4.out _ Fr.dd).mono ?_; rintro e w5 ⟨rfl, l5, b5, o5⟩; have H5 : Hid (LP w0 (some i) B w5 wb sv D (q + 1)) := l5; obtain ⟨z0, z2, z4, z5, z6⟩ := HCs.out w5 o5 b5; clear l5 b5 o5))
  all_goals
   go_wp2
   go_ret
   exact ⟨rfl, H5.out⟩
set_option maxRecDepth 100000 in
set_option maxHeartbeats 1600000 in
theorem store_release (w0 : World) (B wb : Nat) (sv tv : Value) (T : List ByteArray) (kv mv : Value) (sds : List SdR) (K M : List (Nat × Nat × Nat)) (q : Nat) (i : Nat) (x : SdR) (at' a b : Int) (t : ByteArray) (lo : Option Addr) (n c : Nat) (w : World) (h : LS w0 none B w wb sv tv T kv mv sds K M q) (hx : sds[i]? = some x) (hq : q ≤ 2000000) :
  Calls Tryz.prog 16 #[.pointer (some ⟨wb, 0, none⟩), .pointer (some ⟨x.db, 0, none⟩), .agg #[.int .i64 7, .int .i64 at', .int .i64 a, .int .i64 b, .string t, .slice lo n c]] w fun e w' => e = .returned (.bool true) ∧ LP w0 (some i) B w' wb sv (sds.map SdR.db) (q + 1) := by
 obtain ⟨db, hdb⟩ : ∃ db, x.db = db := ⟨_, rfl⟩
 obtain ⟨xb, hxb⟩ : ∃ xb, x.b = xb := ⟨_, rfl⟩
 obtain ⟨rb, hrb⟩ : ∃ rb, x.rb = rb := ⟨_, rfl⟩
 obtain ⟨lnv, hlnv⟩ : ∃ v, x.lnv = v := ⟨_, rfl⟩
 obtain ⟨D, hD⟩ : ∃ D, sds.map SdR.db = D := ⟨_, rfl⟩
 obtain ⟨W1, hW1⟩ : ∃ W1, w.alloc (.cells #[.int .i64 7, .int .i64 at', .int .i64 a, .int .i64 b, .string t, .slice lo n c] 41) = W1 := ⟨_, rfl⟩
 obtain ⟨ob, hob⟩ : ∃ ob, w.heap.size = ob := ⟨_, rfl⟩
 have o1 : W1.heap[ob]? = some (.cells #[.int .i64 7, .int .i64 at', .int .i64 a, .int .i64 b, .string t, .slice lo n c] 41 (0, 0)) := by rw [← hW1, ← hob]; exact heap_alloc_new w _
 have h1 : LS w0 none B W1 wb sv tv T kv mv sds K M q := h.same (by rw [← hW1]; exact (Fr.refl _ _).alloc _)
 have d1 : W1.heap[db]? = some (sdO xb rb lnv) := by rw [← hdb, ← hxb, ← hrb, ← hlnv]; exact (h1.sd i x hx).1.blk
 have HCs : Hid (∀ W : World, W.heap[ob]? = some (.cells #[.int .i64 7, .int .i64 at', .int .i64 a, .int .i64 b, .string t, .slice lo n c] 41 (0, 0)) → W.heap[db]? = some (sdO xb rb lnv) → W.cell? ⟨ob, 0, none⟩ = some (.int .i64 7) ∧ W.cell? ⟨ob, 2, none⟩ = some (.int .i64 a) ∧ W.cell? ⟨ob, 3, none⟩ = some (.int .i64 b) ∧ W.cell? ⟨db, 0, none⟩ = some (.pointer (some ⟨xb, 0, none⟩)) ∧ W.cell? ⟨db, 1, none⟩ = some (.pointer (some ⟨rb, 0, none⟩))) := fun W e1 e2 => by
  refine ⟨?_, ?_, ?_, ?_, ?_⟩
  · rw [cell_of e1]; rfl
  · rw [cell_of e1]; rfl
  · rw [cell_of e1]; rfl
  · rw [cell_of e2]; rfl
  · rw [cell_of e2]; rfl
 obtain ⟨k0, k2, k4, k5, k6⟩ := HCs.out W1 o1 d1
 have HP : Hid (∀ W, Fr [] W1 W → Calls Tryz.prog 39 #[.pointer (some ⟨xb, 0, none⟩), .int .i64 a] W (QC fC w0 i lnv B wb sv D q db xb rb ob (.cells #[.int .i64 7, .int .i64 at', .int .i64 a, .int .i64 b, .string t, .slice lo n c] 41 (0, 0)) 40 #[.pointer (some ⟨rb, 0, none⟩), .int .i64 a])) := fun W hW => by
  have hW2 := h1.same hW
  have oW : W.heap[ob]? = some (.cells #[.int .i64 7, .int .i64 at', .int .i64 a, .int .i64 b, .string t, .slice lo n c] 41 (0, 0)) := by rw [hW.block ob (Array.getElem?_eq_some_iff.1 o1).1 (by simp)]; exact o1
  rw [← hdb, ← hxb, ← hrb, ← hlnv, ← hD]
  exact (p_release (hW2.sd i x hx).1 (hW2.sd i x hx).2 a hq).mono fun e w1 p => p.q hW2 hx oW
 rw [hdb, hD]
 clear h h1 hx o1 d1 hdb hxb hrb hlnv hD
 go_enter Tryz.func16, Tryz.ntmps16
 go_wp2
 clear hW1 hob
 go_region_held3 (fun w' => w'.cell? ⟨ob, 2, none⟩ = some (.int .i64 a) ∧ w'.cell? ⟨ob, 3, none⟩ = some (.int .i64 b) ∧ w'.cell? ⟨db, 0, none⟩ = some (.pointer (some ⟨xb, 0, none⟩)))
  (first
   | exact ⟨y2, y4, y5⟩
   | go_keep)
  (first
   | (go_at_call 39; refine (HP.out _ Fr.dd).mono ?_; rintro e w4 ⟨z, rfl, b4, o4, hr4⟩; have H4 : Hid (∀ W, Fr [] w4 W → Calls Tryz.prog 40 #[.pointer (some ⟨rb, 0, none⟩), .int .i64 a] W fun e2 w2 => e2 = .returned (.int .i64 z) ∧ LP w0 (some i) B w2 wb sv D (q + 1) ∧ w2.heap[db]? = some (sdO xb rb lnv) ∧ w2.heap[ob]? = some (.cells #[.int .i64 7, .int .i64 at', .int .i64 a, .int .i64 b, .string t, .slice lo n c] 41 (0, 0))) := hr4; obtain ⟨y0, y2, y4, y5, y6⟩ := HCs.out w4 o4 b4; rw [show fC z = Value.int .i64 z from rfl]; clear b4 o4 hr4))
 all_goals
  go_wp2
  go_region_held3 (fun w' => w'.cell? ⟨ob, 2, none⟩ = some (.int .i64 a) ∧ w'.cell? ⟨ob, 3, none⟩ = some (.int .i64 b) ∧ w'.cell? ⟨db, 1, none⟩ = some (.pointer (some ⟨rb, 0, none⟩)))
   (first
    | exact ⟨z2, z4, z6⟩
    | go_keep)
   (first
    | (go_at_call 40; refine (H4.out _ Fr.dd).mono ?_; rintro e w5 ⟨rfl, l5, b5, o5⟩; have H5 : Hid (LP w0 (some i) B w5 wb sv D (q + 1)) := l5; obtain ⟨z0, z2, z4, z5, z6⟩ := HCs.out w5 o5 b5; clear l5 b5 o5))
  all_goals
   go_wp2
   go_ret
   exact ⟨rfl, H5.out⟩
set_option maxRecDepth 100000 in
set_option maxHeartbeats 1600000 in
theorem store_mark (w0 : World) (B wb : Nat) (sv tv : Value) (T : List ByteArray) (kv mv : Value) (sds : List SdR) (K M : List (Nat × Nat × Nat)) (q : Nat) (i : Nat) (x : SdR) (at' a b : Int) (t : ByteArray) (lo : Option Addr) (n c : Nat) (w : World) (h : LS w0 none B w wb sv tv T kv mv sds K M q) (hx : sds[i]? = some x) (hq : q ≤ 2000000) :
  Calls Tryz.prog 16 #[.pointer (some ⟨wb, 0, none⟩), .pointer (some ⟨x.db, 0, none⟩), .agg #[.int .i64 9, .int .i64 at', .int .i64 a, .int .i64 b, .string t, .slice lo n c]] w fun e w' => e = .returned (.bool true) ∧ LP w0 (some i) B w' wb sv (sds.map SdR.db) (q + 1) := by
 obtain ⟨db, hdb⟩ : ∃ db, x.db = db := ⟨_, rfl⟩
 obtain ⟨xb, hxb⟩ : ∃ xb, x.b = xb := ⟨_, rfl⟩
 obtain ⟨rb, hrb⟩ : ∃ rb, x.rb = rb := ⟨_, rfl⟩
 obtain ⟨lnv, hlnv⟩ : ∃ v, x.lnv = v := ⟨_, rfl⟩
 obtain ⟨D, hD⟩ : ∃ D, sds.map SdR.db = D := ⟨_, rfl⟩
 obtain ⟨W1, hW1⟩ : ∃ W1, w.alloc (.cells #[.int .i64 9, .int .i64 at', .int .i64 a, .int .i64 b, .string t, .slice lo n c] 41) = W1 := ⟨_, rfl⟩
 obtain ⟨ob, hob⟩ : ∃ ob, w.heap.size = ob := ⟨_, rfl⟩
 have o1 : W1.heap[ob]? = some (.cells #[.int .i64 9, .int .i64 at', .int .i64 a, .int .i64 b, .string t, .slice lo n c] 41 (0, 0)) := by rw [← hW1, ← hob]; exact heap_alloc_new w _
 have h1 : LS w0 none B W1 wb sv tv T kv mv sds K M q := h.same (by rw [← hW1]; exact (Fr.refl _ _).alloc _)
 have d1 : W1.heap[db]? = some (sdO xb rb lnv) := by rw [← hdb, ← hxb, ← hrb, ← hlnv]; exact (h1.sd i x hx).1.blk
 have HCs : Hid (∀ W : World, W.heap[ob]? = some (.cells #[.int .i64 9, .int .i64 at', .int .i64 a, .int .i64 b, .string t, .slice lo n c] 41 (0, 0)) → W.heap[db]? = some (sdO xb rb lnv) → W.cell? ⟨ob, 0, none⟩ = some (.int .i64 9) ∧ W.cell? ⟨ob, 2, none⟩ = some (.int .i64 a) ∧ W.cell? ⟨ob, 3, none⟩ = some (.int .i64 b) ∧ W.cell? ⟨db, 0, none⟩ = some (.pointer (some ⟨xb, 0, none⟩)) ∧ W.cell? ⟨db, 1, none⟩ = some (.pointer (some ⟨rb, 0, none⟩))) := fun W e1 e2 => by
  refine ⟨?_, ?_, ?_, ?_, ?_⟩
  · rw [cell_of e1]; rfl
  · rw [cell_of e1]; rfl
  · rw [cell_of e1]; rfl
  · rw [cell_of e2]; rfl
  · rw [cell_of e2]; rfl
 obtain ⟨k0, k2, k4, k5, k6⟩ := HCs.out W1 o1 d1
 have HP : Hid (∀ W, Fr [] W1 W → Calls Tryz.prog 42 #[.pointer (some ⟨xb, 0, none⟩), .int .i64 a] W (QC fC w0 i lnv B wb sv D q db xb rb ob (.cells #[.int .i64 9, .int .i64 at', .int .i64 a, .int .i64 b, .string t, .slice lo n c] 41 (0, 0)) 43 #[.pointer (some ⟨rb, 0, none⟩), .int .i64 a])) := fun W hW => by
  have hW2 := h1.same hW
  have oW : W.heap[ob]? = some (.cells #[.int .i64 9, .int .i64 at', .int .i64 a, .int .i64 b, .string t, .slice lo n c] 41 (0, 0)) := by rw [hW.block ob (Array.getElem?_eq_some_iff.1 o1).1 (by simp)]; exact o1
  rw [← hdb, ← hxb, ← hrb, ← hlnv, ← hD]
  exact (p_mark (hW2.sd i x hx).1 (hW2.sd i x hx).2 a hq).mono fun e w1 p => p.q hW2 hx oW
 rw [hdb, hD]
 clear h h1 hx o1 d1 hdb hxb hrb hlnv hD
 go_enter Tryz.func16, Tryz.ntmps16
 go_wp2
 clear hW1 hob
 go_region_held3 (fun w' => w'.cell? ⟨ob, 2, none⟩ = some (.int .i64 a) ∧ w'.cell? ⟨ob, 3, none⟩ = some (.int .i64 b) ∧ w'.cell? ⟨db, 0, none⟩ = some (.pointer (some ⟨xb, 0, none⟩)))
  (first
   | exact ⟨y2, y4, y5⟩
   | go_keep)
  (first
   | (go_at_call 42; refine (HP.out _ Fr.dd).mono ?_; rintro e w4 ⟨z, rfl, b4, o4, hr4⟩; have H4 : Hid (∀ W, Fr [] w4 W → Calls Tryz.prog 43 #[.pointer (some ⟨rb, 0, none⟩), .int .i64 a] W fun e2 w2 => e2 = .returned (.int .i64 z) ∧ LP w0 (some i) B w2 wb sv D (q + 1) ∧ w2.heap[db]? = some (sdO xb rb lnv) ∧ w2.heap[ob]? = some (.cells #[.int .i64 9, .int .i64 at', .int .i64 a, .int .i64 b, .string t, .slice lo n c] 41 (0, 0))) := hr4; obtain ⟨y0, y2, y4, y5, y6⟩ := HCs.out w4 o4 b4; rw [show fC z = Value.int .i64 z from rfl]; clear b4 o4 hr4))
 all_goals
  go_wp2
  go_region_held3 (fun w' => w'.cell? ⟨ob, 2, none⟩ = some (.int .i64 a) ∧ w'.cell? ⟨ob, 3, none⟩ = some (.int .i64 b) ∧ w'.cell? ⟨db, 1, none⟩ = some (.pointer (some ⟨rb, 0, none⟩)))
   (first
    | exact ⟨z2, z4, z6⟩
    | go_keep)
   (first
    | (go_at_call 43; refine (H4.out _ Fr.dd).mono ?_; rintro e w5 ⟨rfl, l5, b5, o5⟩; have H5 : Hid (LP w0 (some i) B w5 wb sv D (q + 1)) := l5; obtain ⟨z0, z2, z4, z5, z6⟩ := HCs.out w5 o5 b5; clear l5 b5 o5))
  all_goals
   go_wp2
   go_ret
   exact ⟨rfl, H5.out⟩
set_option maxRecDepth 100000 in
set_option maxHeartbeats 1600000 in
theorem store_unmark (w0 : World) (B wb : Nat) (sv tv : Value) (T : List ByteArray) (kv mv : Value) (sds : List SdR) (K M : List (Nat × Nat × Nat)) (q : Nat) (i : Nat) (x : SdR) (at' a b : Int) (t : ByteArray) (lo : Option Addr) (n c : Nat) (w : World) (h : LS w0 none B w wb sv tv T kv mv sds K M q) (hx : sds[i]? = some x) (hq : q ≤ 2000000) :
  Calls Tryz.prog 16 #[.pointer (some ⟨wb, 0, none⟩), .pointer (some ⟨x.db, 0, none⟩), .agg #[.int .i64 10, .int .i64 at', .int .i64 a, .int .i64 b, .string t, .slice lo n c]] w fun e w' => e = .returned (.bool true) ∧ LP w0 (some i) B w' wb sv (sds.map SdR.db) (q + 1) := by
 obtain ⟨db, hdb⟩ : ∃ db, x.db = db := ⟨_, rfl⟩
 obtain ⟨xb, hxb⟩ : ∃ xb, x.b = xb := ⟨_, rfl⟩
 obtain ⟨rb, hrb⟩ : ∃ rb, x.rb = rb := ⟨_, rfl⟩
 obtain ⟨lnv, hlnv⟩ : ∃ v, x.lnv = v := ⟨_, rfl⟩
 obtain ⟨D, hD⟩ : ∃ D, sds.map SdR.db = D := ⟨_, rfl⟩
 obtain ⟨W1, hW1⟩ : ∃ W1, w.alloc (.cells #[.int .i64 10, .int .i64 at', .int .i64 a, .int .i64 b, .string t, .slice lo n c] 41) = W1 := ⟨_, rfl⟩
 obtain ⟨ob, hob⟩ : ∃ ob, w.heap.size = ob := ⟨_, rfl⟩
 have o1 : W1.heap[ob]? = some (.cells #[.int .i64 10, .int .i64 at', .int .i64 a, .int .i64 b, .string t, .slice lo n c] 41 (0, 0)) := by rw [← hW1, ← hob]; exact heap_alloc_new w _
 have h1 : LS w0 none B W1 wb sv tv T kv mv sds K M q := h.same (by rw [← hW1]; exact (Fr.refl _ _).alloc _)
 have d1 : W1.heap[db]? = some (sdO xb rb lnv) := by rw [← hdb, ← hxb, ← hrb, ← hlnv]; exact (h1.sd i x hx).1.blk
 have HCs : Hid (∀ W : World, W.heap[ob]? = some (.cells #[.int .i64 10, .int .i64 at', .int .i64 a, .int .i64 b, .string t, .slice lo n c] 41 (0, 0)) → W.heap[db]? = some (sdO xb rb lnv) → W.cell? ⟨ob, 0, none⟩ = some (.int .i64 10) ∧ W.cell? ⟨ob, 2, none⟩ = some (.int .i64 a) ∧ W.cell? ⟨ob, 3, none⟩ = some (.int .i64 b) ∧ W.cell? ⟨db, 0, none⟩ = some (.pointer (some ⟨xb, 0, none⟩)) ∧ W.cell? ⟨db, 1, none⟩ = some (.pointer (some ⟨rb, 0, none⟩))) := fun W e1 e2 => by
  refine ⟨?_, ?_, ?_, ?_, ?_⟩
  · rw [cell_of e1]; rfl
  · rw [cell_of e1]; rfl
  · rw [cell_of e1]; rfl
  · rw [cell_of e2]; rfl
  · rw [cell_of e2]; rfl
 obtain ⟨k0, k2, k4, k5, k6⟩ := HCs.out W1 o1 d1
 have HP : Hid (∀ W, Fr [] W1 W → Calls Tryz.prog 44 #[.pointer (some ⟨xb, 0, none⟩), .int .i64 a] W (QC fC w0 i lnv B wb sv D q db xb rb ob (.cells #[.int .i64 10, .int .i64 at', .int .i64 a, .int .i64 b, .string t, .slice lo n c] 41 (0, 0)) 45 #[.pointer (some ⟨rb, 0, none⟩), .int .i64 a])) := fun W hW => by
  have hW2 := h1.same hW
  have oW : W.heap[ob]? = some (.cells #[.int .i64 10, .int .i64 at', .int .i64 a, .int .i64 b, .string t, .slice lo n c] 41 (0, 0)) := by rw [hW.block ob (Array.getElem?_eq_some_iff.1 o1).1 (by simp)]; exact o1
  rw [← hdb, ← hxb, ← hrb, ← hlnv, ← hD]
  exact (p_unmark (hW2.sd i x hx).1 (hW2.sd i x hx).2 a hq).mono fun e w1 p => p.q hW2 hx oW
 rw [hdb, hD]
 clear h h1 hx o1 d1 hdb hxb hrb hlnv hD
 go_enter Tryz.func16, Tryz.ntmps16
 go_wp2
 clear hW1 hob
 go_region_held3 (fun w' => w'.cell? ⟨ob, 2, none⟩ = some (.int .i64 a) ∧ w'.cell? ⟨ob, 3, none⟩ = some (.int .i64 b) ∧ w'.cell? ⟨db, 0, none⟩ = some (.pointer (some ⟨xb, 0, none⟩)))
  (first
   | exact ⟨y2, y4, y5⟩
   | go_keep)
  (first
   | (go_at_call 44; refine (HP.out _ Fr.dd).mono ?_; rintro e w4 ⟨z, rfl, b4, o4, hr4⟩; have H4 : Hid (∀ W, Fr [] w4 W → Calls Tryz.prog 45 #[.pointer (some ⟨rb, 0, none⟩), .int .i64 a] W fun e2 w2 => e2 = .returned (.int .i64 z) ∧ LP w0 (some i) B w2 wb sv D (q + 1) ∧ w2.heap[db]? = some (sdO xb rb lnv) ∧ w2.heap[ob]? = some (.cells #[.int .i64 10, .int .i64 at', .int .i64 a, .int .i64 b, .string t, .slice lo n c] 41 (0, 0))) := hr4; obtain ⟨y0, y2, y4, y5, y6⟩ := HCs.out w4 o4 b4; rw [show fC z = Value.int .i64 z from rfl]; clear b4 o4 hr4))
 all_goals
  go_wp2
  go_region_held3 (fun w' => w'.cell? ⟨ob, 2, none⟩ = some (.int .i64 a) ∧ w'.cell? ⟨ob, 3, none⟩ = some (.int .i64 b) ∧ w'.cell? ⟨db, 1, none⟩ = some (.pointer (some ⟨rb, 0, none⟩)))
   (first
    | exact ⟨z2, z4, z6⟩
    | go_keep)
   (first
    | (go_at_call 45; refine (H4.out _ Fr.dd).mono ?_; rintro e w5 ⟨rfl, l5, b5, o5⟩; have H5 : Hid (LP w0 (some i) B w5 wb sv D (q + 1)) := l5; obtain ⟨z0, z2, z4, z5, z6⟩ := HCs.out w5 o5 b5; clear l5 b5 o5))
  all_goals
   go_wp2
   go_ret
   exact ⟨rfl, H5.out⟩
structure OpOk (B : Nat) (w : World) (at' a b : Int) (lo : Option Addr) (zs : List Int) (c : Nat) : Prop where
 at' : In64 at'
 a : In64 a
 row : RowG w lo zs c
 nil : lo = none → c = 0
 low : ∀ k off, lo = some ⟨k, off, none⟩ → 0 < zs.length → k < B
 fit : ∀ i, i < zs.length → In64 (tm zs i)
 len : zs.length ≤ 1500000
theorem OpOk.same {B : Nat} {w w' : World} {at' a b : Int} {lo : Option Addr} {zs : List Int} {c : Nat} (h : OpOk B w at' a b lo zs c) (hf : Fr [] w w') : OpOk B w' at' a b lo zs c := ⟨h.at', h.a, h.row.fr hf (by simp), h.nil, h.low, h.fit, h.len⟩
theorem store_any (w0 : World) (B wb : Nat) (sv tv : Value) (T : List ByteArray) (kv mv : Value) (sds : List SdR) (K M : List (Nat × Nat × Nat)) (q : Nat) (i : Nat) (x : SdR) (k at' a b : Int) (t : ByteArray) (lo : Option Addr) (zs : List Int) (c : Nat) (w : World) (h : LS w0 none B w wb sv tv T kv mv sds K M q) (hx : sds[i]? = some x) (hk : 1 ≤ k ∧ k ≤ 11) (ho : OpOk B w at' a b lo zs c) (hq : q ≤ 2000000) :
  Calls Tryz.prog 16 #[.pointer (some ⟨wb, 0, none⟩), .pointer (some ⟨x.db, 0, none⟩), .agg #[.int .i64 k, .int .i64 at', .int .i64 a, .int .i64 b, .string t, .slice lo zs.length c]] w fun e w' => e = .returned (.bool true) ∧ LP w0 (some i) B w' wb sv (sds.map SdR.db) (q + 1) := by
 rcases (by omega : k = 1 ∨ k = 2 ∨ k = 3 ∨ k = 4 ∨ k = 5 ∨ k = 6 ∨ k = 7 ∨ k = 8 ∨ k = 9 ∨ k = 10 ∨ k = 11) with rfl | rfl | rfl | rfl | rfl | rfl | rfl | rfl | rfl | rfl | rfl
 · exact store_write w0 B wb sv tv T kv mv sds K M q i x at' a b t lo _ c w h hx hq
 · exact store_read w0 B wb sv tv T kv mv sds K M q i x at' a b t lo _ c w h hx
 · exact store_snap w0 B wb sv tv T kv mv sds K M q i x at' a b t lo _ c w h hx hq
 · exact store_snaps w0 B wb sv tv T kv mv sds K M q i x at' a b t lo _ c w h hx hq
 · exact store_at w0 B wb sv tv T kv mv sds K M q i x at' a b t lo _ c w h hx ho.a
 · exact store_hold w0 B wb sv tv T kv mv sds K M q i x at' a b t lo _ c w h hx hq
 · exact store_release w0 B wb sv tv T kv mv sds K M q i x at' a b t lo _ c w h hx hq
 · exact store_destroy w0 B wb sv tv T kv mv sds K M q i x at' a b t lo zs c w h hx ho.row ho.nil ho.low ho.fit ho.len hq
 · exact store_mark w0 B wb sv tv T kv mv sds K M q i x at' a b t lo _ c w h hx hq
 · exact store_unmark w0 B wb sv tv T kv mv sds K M q i x at' a b t lo _ c w h hx hq
 · exact store_marks w0 B wb sv tv T kv mv sds K M q i x at' a b t lo _ c w h hx hq
def LX (w0 : World) (B : Nat) (w' : World) (wb : Nat) (sv : Value) (D : List Nat) (q : Nat) : Prop := ∃ tv T kv mv sds K M, LS w0 none B w' wb sv tv T kv mv sds K M q ∧ sds.map SdR.db = D
def LnL (W : World) (db n : Nat) (z : Nat) : Prop := ∃ g c, W.cell? ⟨db, 2, none⟩ = some (.slice (some ⟨g, 0, none⟩) (n + 1) c) ∧ W.cell? ⟨g, n * 2, none⟩ = some (.int .i64 z)
section
variable {w0 : World} {di : Option Nat} {B : Nat} {w W : World} {wb : Nat} {sv tv : Value} {T : List ByteArray} {kv mv : Value} {sds : List SdR} {K M : List (Nat × Nat × Nat)} {q i : Nat}
theorem LS.lnl (h : LS w0 di B w wb sv tv T kv mv sds K M q) {x : SdR} (hx : sds[i]? = some x) : ∃ n z p, x.ps.length = n + 1 ∧ x.ps.getLast? = some p ∧ p.lg.length = z ∧ LnL w x.db n z := by
 have lnx := h.ln i x hx
 obtain ⟨d, n0, hC⟩ := lnx.2.ch
 have hne := hC.ne
 have hpos : 0 < x.ps.length := List.length_pos_iff.2 hne
 obtain ⟨p, hp⟩ : ∃ p, x.ps.getLast? = some p := ⟨_, List.getLast?_eq_some_getLast hne⟩
 obtain ⟨a, c, hlv⟩ := own_shape lnx.1.row
 have hrow := lnx.1.row
 rw [hlv] at hrow
 obtain ⟨g, hg, _, hcc⟩ := own_addr hrow hpos
 subst hg
 have hp' : x.ps[x.ps.length - 1]? = some p := by rw [← List.getLast?_eq_getElem?]; exact hp
 have hb : w.heap[x.db]? = some (.cells #[.pointer (some ⟨x.b, 0, none⟩), .pointer (some ⟨x.rb, 0, none⟩), x.lnv] 53 (0, 0)) := (h.sd i x hx).1.blk
 refine ⟨x.ps.length - 1, p.lg.length, p, by omega, hp, rfl, g, c, ?_, ?_⟩
 · rw [cell_of hb, hlv, show x.ps.length - 1 + 1 = x.ps.length by omega]
   rfl
 · rw [hcc ((x.ps.length - 1) * 2) (by omega)]
   exact (ptC_get x.ps _ p hp').1
theorem LP.point {D : List Nat} {db : Nat} (h : LP w0 (some i) B W wb sv D q) (hD : D[i]? = some db) (hq : q ≤ 1950000) : ∃ n z, n ≤ 2000000 ∧ LnL W db n z ∧ ∀ W', Fr [] W W' → Calls Tryz.prog 9 #[.pointer (some ⟨db, 0, none⟩)] W' fun e w' => e = .returned (.tuple #[]) ∧ ∃ z', z ≤ z' ∧ LnL w' db (n + 1) z' ∧ LX w0 B w' wb sv D (q + 1) := by
 obtain ⟨tv, T, kv, mv, sds, K, M, l, rfl⟩ := h
 rw [List.getElem?_map] at hD
 obtain ⟨x, hx, rfl⟩ := Option.map_eq_some_iff.1 hD
 obtain ⟨n, z, p, e1, e2, e3, hl⟩ := l.lnl hx
 have lnx := l.ln i x hx
 have hlen := lnx.2.len
 have m := (l.sd i x hx).2
 refine ⟨n, z, by omega, hl, fun W' hW => ?_⟩
 have l' := l.same hW
 have hli := (lnx.2.li p e2).len
 have hpos : 0 < x.s.log.length := by
  obtain ⟨d, n0, hC⟩ := lnx.2.ch
  obtain ⟨r0, hr0, _⟩ := hC.first
  have h7 := hC.mono (Nat.zero_le _) hr0 (map_last e2)
  rw [entN_len] at h7
  have h8 : 7 ≤ p.lg.length := h7
  omega
 have hlog := m.lg
 refine (point_any B x.db x.b x.rb x.s x.r x.lnv x.ps W' (l'.sd i x hx).1 (l'.ln i x hx).1.row hpos (by have := m.glen; have := m.len; omega) (by have := m.mlen; have := m.len; omega) (by omega) (by omega)).mono ?_
 rintro e w' ⟨rfl, v9, cb, rc, hp⟩
 obtain ⟨l2, hD2⟩ := l'.addPt hx hp
 have hil : i < sds.length := (List.getElem?_eq_some_iff.1 hx).1
 obtain ⟨n2, z2, p2, f1, f2, f3, hl2⟩ := l2.lnl (List.getElem?_set_self hil)
 have hn2 : n2 = n + 1 := by
  have : (x.ps ++ [(⟨cb, rc, x.s.log⟩ : Pt)]).length = n2 + 1 := f1
  rw [List.length_append, List.length_singleton] at this
  omega
 have hz2 : z2 = x.s.log.length := by
  have h5 : (x.ps ++ [(⟨cb, rc, x.s.log⟩ : Pt)]).getLast? = some p2 := f2
  have e : p2 = _ := (Option.some.inj ((getLast_app _ _).symm.trans h5)).symm
  rw [← f3, e]
 subst hn2 hz2
 exact ⟨rfl, x.s.log.length, by rw [← e3]; exact hli, hl2, tv, T, kv, mv, _, K, M, l2, hD2⟩
end
set_option maxRecDepth 100000 in
set_option maxHeartbeats 3200000 in
theorem step_logs (w0 : World) (B wb : Nat) (sv tv : Value) (T : List ByteArray) (kv mv : Value) (sds : List SdR) (K M : List (Nat × Nat × Nat)) (q : Nat) (k at' a b : Int) (t : ByteArray) (lo : Option Addr) (zs : List Int) (c : Nat) (w : World) (h : LS w0 none B w wb sv tv T kv mv sds K M q) (h3 : sds.length = 3) (hk : k ≤ 15) (ho : OpOk B w at' a b lo zs c) (hts : t.size ≤ 2000000) (hq : q ≤ 1900000) :
  Calls Tryz.prog 10 #[.pointer (some ⟨wb, 0, none⟩), .agg #[.int .i64 k, .int .i64 at', .int .i64 a, .int .i64 b, .string t, .slice lo zs.length c], .bool true] w fun e w' => e = .returned (.bool true) ∧ LX w0 B w' wb sv (sds.map SdR.db) (q + 2) := by
 have hp := pk_lt at' 3 (by omega)
 obtain ⟨i, hi⟩ : ∃ i : Nat, pk at' 3 = (i : Int) := ⟨(pk at' 3).toNat, by omega⟩
 rw [hi] at hp
 have hi3 : i < 3 := by omega
 have hil : i < sds.length := by omega
 obtain ⟨x, hx⟩ : ∃ x, sds[i]? = some x := ⟨_, List.getElem?_eq_getElem hil⟩
 have HPk : Hid (∀ W, Calls Tryz.prog 8 #[.int .i64 at', .int .i64 3] W fun e w' => e = .returned (.int .i64 i) ∧ w' = W) := fun W => by rw [← hi]; exact pick_any at' 3 W ho.at' (by omega) (by omega)
 obtain ⟨db, hdb⟩ : ∃ db, x.db = db := ⟨_, rfl⟩
 obtain ⟨n, hn⟩ : ∃ n, zs.length = n := ⟨_, rfl⟩
 obtain ⟨D, hD⟩ : ∃ D, sds.map SdR.db = D := ⟨_, rfl⟩
 obtain ⟨W1, hW1⟩ : ∃ W1, w.alloc (.cells #[.int .i64 k, .int .i64 at', .int .i64 a, .int .i64 b, .string t, .slice lo n c] 41) = W1 := ⟨_, rfl⟩
 obtain ⟨ob, hob⟩ : ∃ ob, w.heap.size = ob := ⟨_, rfl⟩
 have o1 : W1.heap[ob]? = some (.cells #[.int .i64 k, .int .i64 at', .int .i64 a, .int .i64 b, .string t, .slice lo n c] 41 (0, 0)) := by rw [← hW1, ← hob]; exact heap_alloc_new w _
 have f1 : Fr [] w W1 := by rw [← hW1]; exact (Fr.refl _ _).alloc _
 have h1 := h.same f1
 obtain ⟨sa, sc, hsv⟩ := own_shape h1.wm.so
 have hso := h1.wm.so
 have hDl : (sds.map SdR.db).length = 3 := by rw [List.length_map]; exact h3
 rw [hDl] at hsv hso
 rw [hsv] at hso
 obtain ⟨sg, hsg, hscap, hcc⟩ := own_addr hso (by omega)
 subst hsg
 have s0 : W1.cell? ⟨wb, 0, none⟩ = some (.slice (some ⟨sg, 0, none⟩) 3 sc) := by rw [← hsv]; exact h1.wm.cells.1
 have s1 : W1.cell? ⟨sg, i, none⟩ = some (.pointer (some ⟨db, 0, none⟩)) := by
  rw [hcc i (by omega), ← hdb]
  rw [List.getElem?_map, List.getElem?_map, hx]
  rfl
 have k0 : W1.cell? ⟨ob, 0, none⟩ = some (.int .i64 k) := by rw [cell_of o1]; rfl
 have k1 : W1.cell? ⟨ob, 1, none⟩ = some (.int .i64 at') := by rw [cell_of o1]; rfl
 have k2 : W1.cell? ⟨ob, 2, none⟩ = some (.int .i64 a) := by rw [cell_of o1]; rfl
 have k3 : W1.cell? ⟨ob, 3, none⟩ = some (.int .i64 b) := by rw [cell_of o1]; rfl
 have k4 : W1.cell? ⟨ob, 4, none⟩ = some (.string t) := by rw [cell_of o1]; rfl
 have k5 : W1.cell? ⟨ob, 5, none⟩ = some (.slice lo n c) := by rw [cell_of o1]; rfl
 have HS : Hid (∀ W, Fr [] W1 W → (1 ≤ k ∧ k ≤ 11) → Calls Tryz.prog 16 #[.pointer (some ⟨wb, 0, none⟩), .pointer (some ⟨db, 0, none⟩), .agg #[.int .i64 k, .int .i64 at', .int .i64 a, .int .i64 b, .string t, .slice lo n c]] W fun e w' => e = .returned (.bool true) ∧ LP w0 (some i) B w' wb sv D (q + 1)) := fun W hW hk => by
  have h8 := store_any w0 B wb sv tv T kv mv sds K M q i x k at' a b t lo zs c W (h1.same hW) hx hk ((ho.same f1).same hW) (by omega)
  rw [hdb, hn, hD] at h8
  exact h8
 have HS12 : Hid (∀ W, Fr [] W1 W → Calls Tryz.prog 17 #[.pointer (some ⟨wb, 0, none⟩), .pointer (some ⟨db, 0, none⟩), .agg #[.int .i64 12, .int .i64 at', .int .i64 a, .int .i64 b, .string t, .slice lo n c]] W fun e w' => e = .returned (.bool true) ∧ LP w0 (some i) B w' wb sv D (q + 1)) := fun W hW => by
  have h8 := sends_any w0 B wb sv tv T kv mv sds K M q i x at' a b t lo zs.length c W (h1.same hW) hx (by omega)
  rw [hdb, hn, hD] at h8
  exact h8
 have HS13 : Hid (∀ W, Fr [] W1 W → Calls Tryz.prog 18 #[.pointer (some ⟨wb, 0, none⟩), .pointer (some ⟨db, 0, none⟩), .agg #[.int .i64 13, .int .i64 at', .int .i64 a, .int .i64 b, .string t, .slice lo n c]] W fun e w' => e = .returned (.bool true) ∧ LP w0 (some i) B w' wb sv D (q + 1)) := fun W hW => by
  have h8 := receives_any w0 B wb sv tv T kv mv sds K M q i x at' a b t lo zs.length c W (h1.same hW) hx (by omega) hts ho.a
  rw [hdb, hn, hD] at h8
  exact h8
 have HU : Hid (∀ W, Fr [] W1 W → LP w0 (some i) B W wb sv D (q + 1)) := fun W hW => ⟨tv, T, kv, mv, sds, K, M, (h1.same hW).dirty.up, hD⟩
 have HS14 : Hid (∀ W, Fr [] W1 W → Calls Tryz.prog 19 #[.pointer (some ⟨wb, 0, none⟩), .pointer (some ⟨db, 0, none⟩), .agg #[.int .i64 14, .int .i64 at', .int .i64 a, .int .i64 b, .string t, .slice lo n c]] W fun e w' => e = .returned (.bool true) ∧ LX w0 B w' wb sv D (q + 2)) := fun W hW => by
  have h8 := opens_any w0 B wb sv tv T kv mv sds K M q i x 14 at' a b t lo zs.length c W (h1.same hW) hx hq ho.a
  rw [hdb, hn, hD] at h8
  refine h8.mono ?_
  rintro e w' ⟨rfl, sds', l', e'⟩
  exact ⟨rfl, tv, T, kv, mv, sds', K, M, l'.up.up, e'⟩
 have HG : Hid (∀ W, Calls Tryz.prog 20 #[.string t] W fun e w' => Fr [] W w' ∧ (e = .returned (.tuple #[.pointer none, .int .i64 2]) ∨ ∃ b, e = .returned (.tuple #[.pointer (some ⟨b, 0, none⟩), .int .i64 0]))) := fun W => open_bytes t hts W
 have HUX : Hid (∀ W, Fr [] W1 W → LX w0 B W wb sv D (q + 2)) := fun W hW => ⟨tv, T, kv, mv, sds, K, M, (h1.same hW).up.up, hD⟩
 have HLXs : Hid (∀ W W', LX w0 B W wb sv D (q + 2) → Fr [] W W' → LX w0 B W' wb sv D (q + 2)) := fun W W' hW hf => by
  obtain ⟨tv, T, kv, mv, sds, K, M, l, e⟩ := hW
  exact ⟨tv, T, kv, mv, sds, K, M, l.same hf, e⟩
 have HPt : Hid (∀ W, LP w0 (some i) B W wb sv D (q + 1) → ∃ n z, n ≤ 2000000 ∧ LnL W db n z ∧ Hid (∀ W', Fr [] W W' → Calls Tryz.prog 9 #[.pointer (some ⟨db, 0, none⟩)] W' fun e w' => e = .returned (.tuple #[]) ∧ ∃ z', z ≤ z' ∧ LnL w' db (n + 1) z' ∧ LX w0 B w' wb sv D (q + 2))) := fun W hW => by
  refine hW.point ?_ (by omega)
  rw [← hD, List.getElem?_map, hx, ← hdb]
  rfl
 rw [hD, hn]
 clear h h1 hx o1 f1 ho hdb hD hn hi hDl hsv hso hcc hil h3
 by_cases hk14 : k = 14
 · subst hk14
   go_enter Tryz.func10, Tryz.ntmps10
   go_wp2
   go_region_held3 (fun w' => w'.cell? ⟨wb, 0, none⟩ = some (.slice (some ⟨sg, 0, none⟩) 3 sc) ∧ w'.cell? ⟨ob, 1, none⟩ = some (.int .i64 at') ∧ w'.cell? ⟨sg, i, none⟩ = some (.pointer (some ⟨db, 0, none⟩)))
    (first
     | go_keep)
    (first
     | (go_at_call 8; refine (HPk.out _).mono ?_; rintro e w' ⟨rfl, hw'⟩; have hw'' := hw'.symm; subst hw''))
   all_goals
    have j0 : W1.drew.cell? ⟨ob, 0, none⟩ = some (.int .i64 14) := k0
    have j1 : W1.drew.cell? ⟨ob, 1, none⟩ = some (.int .i64 at') := k1
    have j2 : W1.drew.cell? ⟨ob, 2, none⟩ = some (.int .i64 a) := k2
    have j3 : W1.drew.cell? ⟨ob, 3, none⟩ = some (.int .i64 b) := k3
    have j4 : W1.drew.cell? ⟨ob, 4, none⟩ = some (.string t) := k4
    have j5 : W1.drew.cell? ⟨ob, 5, none⟩ = some (.slice lo n c) := k5
    go_wp2_with (first
     | (go_at_call 19; refine (HS14.out _ (by first | exact (Fr.refl _ _).drew | exact ((Fr.refl _ _).drew).drew | exact ((Fr.refl _ _).drew).drewN _)).mono ?_; rintro e w5 ⟨rfl, l5⟩; have H5 : Hid (LX w0 B w5 wb sv D (q + 2)) := l5; clear l5))
    go_ret
    exact ⟨rfl, H5.out⟩
 by_cases hk15 : k = 15
 · subst hk15
   go_enter Tryz.func10, Tryz.ntmps10
   go_wp2
   go_region_held3 (fun w' => w'.cell? ⟨wb, 0, none⟩ = some (.slice (some ⟨sg, 0, none⟩) 3 sc) ∧ w'.cell? ⟨ob, 1, none⟩ = some (.int .i64 at') ∧ w'.cell? ⟨sg, i, none⟩ = some (.pointer (some ⟨db, 0, none⟩)))
    (first
     | go_keep)
    (first
     | (go_at_call 8; refine (HPk.out _).mono ?_; rintro e w' ⟨rfl, hw'⟩; have hw'' := hw'.symm; subst hw''))
   all_goals
    have j0 : W1.drew.cell? ⟨ob, 0, none⟩ = some (.int .i64 15) := k0
    have j1 : W1.drew.cell? ⟨ob, 1, none⟩ = some (.int .i64 at') := k1
    have j2 : W1.drew.cell? ⟨ob, 2, none⟩ = some (.int .i64 a) := k2
    have j3 : W1.drew.cell? ⟨ob, 3, none⟩ = some (.int .i64 b) := k3
    have j4 : W1.drew.cell? ⟨ob, 4, none⟩ = some (.string t) := k4
    have j5 : W1.drew.cell? ⟨ob, 5, none⟩ = some (.slice lo n c) := k5
    go_wp2_with (first
     | (go_at_call 20; refine (HG.out _).mono ?_; rintro e w5 ⟨f5, hxe⟩; have H5 : Hid (LX w0 B w5 wb sv D (q + 2)) := HUX.out w5 (by first | exact ((Fr.refl _ _).drew).trans f5 (by simp) | exact (((Fr.refl _ _).drew).drew).trans f5 (by simp) | exact (((Fr.refl _ _).drew).drewN _).trans f5 (by simp)); clear f5; rcases hxe with rfl | ⟨b5, rfl⟩))
    all_goals
     try go_wp2
     go_ret
     refine ⟨?_, HLXs.out _ _ H5.out Fr.dd⟩
     first
      | rfl
      | simp
 rcases (by omega : (1 ≤ k ∧ k ≤ 11) ∨ k = 12 ∨ k = 13 ∨ k < 1) with hk1 | rfl | rfl | hk1
 all_goals
  try have g1 : decide (k ≥ 1) = true := by simp; omega
  try have g2 : decide (k ≤ 11) = true := by simp; omega
  try have g1 : decide (k ≥ 1) = false := by simp; omega
  try have g3 : (k == 12) = false := by simp; omega
  try have g4 : (k == 13) = false := by simp; omega
  try have g5 : (k == 14) = false := by simp; omega
  try have g6 : (k == 15) = false := by simp; omega
  go_enter Tryz.func10, Tryz.ntmps10
  go_wp2
  go_region_held3 (fun w' => w'.cell? ⟨wb, 0, none⟩ = some (.slice (some ⟨sg, 0, none⟩) 3 sc) ∧ w'.cell? ⟨ob, 1, none⟩ = some (.int .i64 at') ∧ w'.cell? ⟨sg, i, none⟩ = some (.pointer (some ⟨db, 0, none⟩)))
   (first
    | go_keep)
   (first
    | (go_at_call 8; refine (HPk.out _).mono ?_; rintro e w' ⟨rfl, hw'⟩; have hw'' := hw'.symm; subst hw''))
  all_goals
   have j0 : W1.drew.cell? ⟨ob, 0, none⟩ = some (.int .i64 _) := k0
   have j1 : W1.drew.cell? ⟨ob, 1, none⟩ = some (.int .i64 at') := k1
   have j2 : W1.drew.cell? ⟨ob, 2, none⟩ = some (.int .i64 a) := k2
   have j3 : W1.drew.cell? ⟨ob, 3, none⟩ = some (.int .i64 b) := k3
   have j4 : W1.drew.cell? ⟨ob, 4, none⟩ = some (.string t) := k4
   have j5 : W1.drew.cell? ⟨ob, 5, none⟩ = some (.slice lo n c) := k5
   go_wp2_with (first
    | (go_at_call 16; refine (HS.out _ (by first | exact (Fr.refl _ _).drew | exact ((Fr.refl _ _).drew).drew | exact ((Fr.refl _ _).drew).drewN _) hk1).mono ?_; rintro e w5 ⟨rfl, l5⟩; have H5 : Hid (LP w0 (some i) B w5 wb sv D (q + 1)) := l5; clear l5)
    | (go_at_call 17; refine (HS12.out _ (by first | exact (Fr.refl _ _).drew | exact ((Fr.refl _ _).drew).drew | exact ((Fr.refl _ _).drew).drewN _)).mono ?_; rintro e w5 ⟨rfl, l5⟩; have H5 : Hid (LP w0 (some i) B w5 wb sv D (q + 1)) := l5; clear l5)
    | (go_at_call 18; refine (HS13.out _ (by first | exact (Fr.refl _ _).drew | exact ((Fr.refl _ _).drew).drew | exact ((Fr.refl _ _).drew).drewN _)).mono ?_; rintro e w5 ⟨rfl, l5⟩; have H5 : Hid (LP w0 (some i) B w5 wb sv D (q + 1)) := l5; clear l5))
   first
    | (have H5' := H5; clear H5')
    | have H5 : Hid (LP w0 (some i) B W1.drew wb sv D (q + 1)) := HU.out _ (Fr.refl _ _).drew
   obtain ⟨n5, z5, hn5, hl5, HP5⟩ := HPt.out _ H5.out
   obtain ⟨m5, hm5⟩ : ∃ m5, n5 + 1 = m5 := ⟨_, rfl⟩
   obtain ⟨m6, hm6⟩ : ∃ m6, m5 + 1 = m6 := ⟨_, rfl⟩
   have HM6 : Hid (m5 + 1 = m6) := hm6
   obtain ⟨g5, c5, x5, y5⟩ := hl5
   rw [hm5] at x5 HP5
   have q5 : IntKind.i64.wrap ((m5 : Int) - 1) = (n5 : Int) := by rw [wrap_fit ⟨by omega, by omega⟩]; omega
   have q6 : IntKind.i64.wrap ((m6 : Int) - 1) = (m5 : Int) := by rw [wrap_fit ⟨by omega, by omega⟩]; omega
   have n50 : (0 : Int) ≤ (n5 : Int) := by omega
   have n51 : (n5 : Int) < (m5 : Int) := by omega
   have m50 : (0 : Int) ≤ (m5 : Int) := by omega
   have m51 : (m5 : Int) < (m6 : Int) := by omega
   clear HPt HS HS12 HS13 HS14 HG HUX HU HPk hm5 hm6
   go_region_held3 (fun w' => w'.cell? ⟨db, 2, none⟩ = some (.slice (some ⟨g5, 0, none⟩) m5 c5) ∧ w'.cell? ⟨g5, n5 * 2, none⟩ = some (.int .i64 z5))
    (first
     | exact ⟨x5, y5⟩
     | go_keep)
    (first
     | fail)
   all_goals
    go_wp2_with (first
     | (go_at_call 9; refine (HP5.out _ Fr.dd).mono ?_; rintro e w6 ⟨rfl, z6, hz6, ⟨g6, c6, x6, y6⟩, l6⟩; rw [HM6.out] at x6; have H6 : Hid (LX w0 B w6 wb sv D (q + 2)) := l6; clear l6))
    have hz6' : (z5 : Int) ≤ (z6 : Int) := by omega
    go_region_held3 (fun w' => w'.cell? ⟨db, 2, none⟩ = some (.slice (some ⟨g6, 0, none⟩) m6 c6) ∧ w'.cell? ⟨g6, m5 * 2, none⟩ = some (.int .i64 z6))
     (first
      | exact ⟨x6, y6⟩
      | go_keep)
     (first
      | fail)
    all_goals
     go_wp2
     go_ret
     refine ⟨?_, HLXs.out _ _ H6.out Fr.dd⟩
     first
      | rfl
      | simp [hz6']
section
variable {w0 : World} {B : Nat} {w w' : World} {wb : Nat} {sv tv : Value} {T : List ByteArray} {kv mv : Value} {D : List Nat} {sds : List SdR} {K M : List (Nat × Nat × Nat)} {q : Nat}
theorem own_base {base base' : Nat} {e : TypeId} {size : Nat} {v : Value} {n : Nat} {xs : List Value} (h : w.ownsRow base e size v n xs) (hb : base' ≤ base) : w.ownsRow base' e size v n xs :=
 ⟨h.1, h.2.imp id fun ⟨g, cap, cur, e, hg, r⟩ => ⟨g, cap, cur, e, Nat.le_trans hb hg, r⟩⟩
theorem Rep.base {B B' : Nat} {b : Nat} {z : Int} {s : Sto} (h : Rep B w b z s) (hB : B' ≤ B) : Rep B' w b z s :=
 ⟨h.blk, h.vol, own_base h.ss hB, h.th, own_base h.ms hB, own_base h.lg hB, Nat.le_trans hB h.hb, Nat.le_trans hB h.hvb, Nat.le_trans hB h.hmb⟩
theorem RRep.base {B B' : Nat} {b : Nat} {s : RSto} (h : RRep B w b s) (hB : B' ≤ B) : RRep B' w b s :=
 ⟨h.blk, h.d16, h.b16, h.wf, own_base h.sh hB, own_base h.ms hB, Nat.le_trans hB h.hb⟩
theorem WM.addD (h : WM B w wb sv tv T kv mv D K M) {w9 : World} (hg : w.grownBy w9 sv.ownBlock) {d : Nat} {sv' : Value} (ho : w9.ownsRow B 35 1 sv' (D.length + 1) ((D.map fun d => Value.pointer (some ⟨d, 0, none⟩)) ++ [Value.pointer (some ⟨d, 0, none⟩)])) : WM B (w9.setCell ⟨wb, 0, none⟩ sv') wb sv' tv T kv mv (D ++ [d]) K M := by
 have ht : ∀ j, sv.ownBlock = some j → ∃ cur, w.heap[j]? = some (.cells cur 35 (0, 0)) := fun j hj => (own_tag h.so hj).2
 have hf : Fr sv.ownBlock.toList w w9 := (Fr.refl _ _).grown hg (fun k hk => Or.inl (by simp [hk]))
 have hnF : wb ∉ sv.ownBlock.toList := fun hm => by
  simp at hm
  obtain ⟨cur, e⟩ := ht wb hm
  rw [h.blk] at e
  simp at e
 have b9 : w9.heap[wb]? = some (.cells #[sv, tv, kv, mv] 34 (0, 0)) := by rw [hf.block wb (Array.getElem?_eq_some_iff.1 h.blk).1 hnF]; exact h.blk
 have hf2 : Fr (wb :: sv.ownBlock.toList) w (w9.setCell ⟨wb, 0, none⟩ sv') := (hf.mono (fun k hk => List.mem_cons_of_mem _ hk)).setCell _ (Or.inl (by simp))
 have hno : ∀ t : TypeId, t ≠ 34 → t ≠ 35 → ∀ j ∈ wb :: sv.ownBlock.toList, ∀ cur, w.heap[j]? ≠ some (.cells cur t (0, 0)) := fun t h1 h2 j hj cur e => by
  rcases List.mem_cons.1 hj with rfl | hj
  · rw [h.blk] at e
    simp at e
    exact h1 e.2.symm
  · simp at hj
    obtain ⟨cur', e'⟩ := ht j hj
    rw [e'] at e
    simp at e
    exact h2 e.2.symm
 refine ⟨by rw [heap_setCell_same _ _ _ _ _ _ b9]; rfl, ?_, own_tagged h.ko hf2 (hno 62 (by decide) (by decide)), own_tagged h.mo hf2 (hno 39 (by decide) (by decide)), fun i y hy => ⟨(h.kk i y hy).1, (h.kk i y hy).2.fr hf2 (hno 61 (by decide) (by decide))⟩, fun i y hy => ⟨(h.mi i y hy).1, (h.mi i y hy).2.fr hf2 (hno 3 (by decide) (by decide))⟩, h.hw, own_tagged h.to hf2 (hno 9 (by decide) (by decide))⟩
 rw [List.length_append, List.length_singleton, List.map_append, List.map_singleton]
 refine own_of_block ho (fun j hj => heap_setCell_other _ _ _ _ (fun e => ?_))
 obtain ⟨_, cur, h4⟩ := own_tag ho hj
 rw [e, b9] at h4
 simp at h4
structure NS (B N : Nat) (w : World) (x : SdR) : Prop where
 sd : SD x.o B w x.db x.b x.rb x.s x.r
 sim : Sim x.s x.r 0
 ft : ∀ k ∈ x.ft, N ≤ k
 lm : LnM B w x
 lp : ∀ i, LnP none i x 0
 cl : ∀ p ∈ x.ps, ∀ k ∈ rfoot p.c p.r, N ≤ k ∧ k ∉ x.ft
 lv : ∀ k, x.lnv.ownBlock = some k → N ≤ k
 db : N ≤ x.db
theorem NS.same {B N : Nat} {w w' : World} {x : SdR} (h : NS B N w x) (hf : Fr [] w w') : NS B N w' x := ⟨h.sd.same hf, h.sim, h.ft, h.lm.same hf, h.lp, h.cl, h.lv, h.db⟩
structure LowN (N : Nat) (y : SdR) : Prop where
 ft : ∀ k ∈ y.ft, k < N
 cl : ∀ p ∈ y.ps, ∀ k ∈ rfoot p.c p.r, k < N
 lv : ∀ k, y.lnv.ownBlock = some k → k < N
 db : y.db < N
theorem LS.lowN (h : LS w0 none B w wb sv tv T kv mv sds K M q) {i : Nat} {y : SdR} (hy : sds[i]? = some y) : LowN w.heap.size y :=
 ⟨fun k hk => ((h.sd i y hy).1.lt k hk).2, fun p hp k hk => (((h.ln i y hy).1.cl p hp).lt k hk).2, fun _ hk => (Array.getElem?_eq_some_iff.1 (own_tag (h.ln i y hy).1.row hk).2.choose_spec).1, (Array.getElem?_eq_some_iff.1 (h.sd i y hy).1.blk).1⟩
theorem LS.add (h : LS w0 none B w wb sv tv T kv mv sds K M 0) {N : Nat} {x : SdR} (hN : ∀ (i : Nat) (y : SdR), sds[i]? = some y → LowN N y) (hx : NS B N w x) {w9 : World} (hg : w.grownBy w9 sv.ownBlock) {sv' : Value} (ho : w9.ownsRow B 35 1 sv' (sds.length + 1) (((sds.map SdR.db).map fun d => Value.pointer (some ⟨d, 0, none⟩)) ++ [Value.pointer (some ⟨x.db, 0, none⟩)])) : LS w0 none B (w9.setCell ⟨wb, 0, none⟩ sv') wb sv' tv T kv mv (sds ++ [x]) K M 0 := by
 have hfr : Fr (wb :: sv.ownBlock.toList) w (w9.setCell ⟨wb, 0, none⟩ sv') := ((Fr.refl _ _).grown hg (fun k hk => Or.inl (by simp [hk]))).setCell _ (Or.inl (by simp))
 have htag : ∀ j ∈ wb :: sv.ownBlock.toList, ∃ cur t, w.heap[j]? = some (.cells cur t (0, 0)) ∧ (t = 34 ∨ t = 35) := fun j hj => by
  rcases List.mem_cons.1 hj with rfl | hj
  · exact ⟨_, _, h.wm.blk, Or.inl rfl⟩
  · simp at hj
    obtain ⟨_, cur, e⟩ := own_tag h.wm.so hj
    exact ⟨_, _, e, Or.inr rfl⟩
 have keep : ∀ {y : SdR}, SD y.o B w y.db y.b y.rb y.s y.r → SD y.o B (w9.setCell ⟨wb, 0, none⟩ sv') y.db y.b y.rb y.s y.r := fun {y} hy => hy.fr hfr (fun k hk hm => by
  obtain ⟨cur, t, e, ht⟩ := htag k hm
  refine hy.no e ?_ hk
  rcases ht with rfl | rfl <;> decide) (fun hm => by
  obtain ⟨cur, t, e, ht⟩ := htag _ hm
  have h8 := hy.blk
  unfold SdR.o sdO at h8
  rw [e] at h8
  simp at h8
  have h9 := h8.2
  rcases ht with rfl | rfl <;> cases h9)
 have keepL : ∀ {y : SdR}, LnM B w y → LnM B (w9.setCell ⟨wb, 0, none⟩ sv') y := fun {y} hy => hy.fr hfr (fun j hj cur e => by
  obtain ⟨cur', t, e', ht⟩ := htag j hj
  rw [e] at e'
  simp at e'
  have h9 := e'.2
  rcases ht with rfl | rfl <;> cases h9) (fun p hp k hk hm => by
  obtain ⟨cur', t, e', ht⟩ := htag k hm
  rcases rfoot_tag (hy.cl p hp) hk e' with rfl | rfl | rfl <;> simp at ht)
 have hget : ∀ {j : Nat} {y : SdR}, (sds ++ [x])[j]? = some y → (j < sds.length ∧ sds[j]? = some y) ∨ (j = sds.length ∧ y = x) := fun {j y} h1 => by
  rcases Nat.lt_or_ge j sds.length with hj | hj
  · rw [List.getElem?_append_left hj] at h1
    exact Or.inl ⟨hj, h1⟩
  · have hj2 : j < (sds ++ [x]).length := (List.getElem?_eq_some_iff.1 h1).1
    rw [List.length_append, List.length_singleton] at hj2
    have hj3 : j = sds.length := by omega
    subst hj3
    rw [List.getElem?_append_right (Nat.le_refl _)] at h1
    exact Or.inr ⟨rfl, by simpa using h1.symm⟩
 refine ⟨?_, fun j y hy => ?_, fun j1 j2 y1 y2 hne h1 h2 => ?_, h.k4, h.kl, h.kb, h.be.trans (hfr.below h.hB (fun k hk => ?_)), h.tl, fun j y hy => ?_, fun j1 j2 y1 y2 h1 h2 p hp k hk hm => ?_, fun j1 j2 y1 y2 k hne h1 h2 => ?_, ?_⟩
 · rw [List.map_append, List.map_singleton]
   exact h.wm.addD hg (by rw [List.length_map]; exact ho)
 · rcases hget hy with ⟨_, h1⟩ | ⟨_, rfl⟩
   · exact ⟨keep (h.sd j y h1).1, (h.sd j y h1).2⟩
   · exact ⟨keep hx.sd, hx.sim⟩
 · rcases hget h1 with ⟨_, a1⟩ | ⟨e1, rfl⟩
   · rcases hget h2 with ⟨_, a2⟩ | ⟨e2, rfl⟩
     · exact h.dj j1 j2 y1 y2 hne a1 a2
     · intro k hk hk2
       have := (hN j1 y1 a1).ft k hk
       have := hx.ft k hk2
       omega
   · rcases hget h2 with ⟨_, a2⟩ | ⟨e2, rfl⟩
     · intro k hk hk2
       have := (hN j2 y2 a2).ft k hk2
       have := hx.ft k hk
       omega
     · exact absurd (e1.trans e2.symm) hne
 · rcases List.mem_cons.1 hk with rfl | hk
   · exact h.wm.hw
   · simp at hk
     exact (own_tag h.wm.so hk).1
 · rcases hget hy with ⟨_, h1⟩ | ⟨_, rfl⟩
   · exact ⟨keepL (h.ln j y h1).1, (h.ln j y h1).2⟩
   · exact ⟨keepL hx.lm, hx.lp j⟩
 · rcases hget h1 with ⟨_, a1⟩ | ⟨e1, rfl⟩
   · rcases hget h2 with ⟨_, a2⟩ | ⟨e2, rfl⟩
     · exact h.cd j1 j2 y1 y2 a1 a2 p hp k hk hm
     · have := (hN j1 y1 a1).cl p hp k hk
       have := hx.ft k hm
       omega
   · rcases hget h2 with ⟨_, a2⟩ | ⟨e2, rfl⟩
     · have := (hN j2 y2 a2).ft k hm
       have := (hx.cl p hp k hk).1
       omega
     · exact (hx.cl p hp k hk).2 hm
 · rcases hget h1 with ⟨_, a1⟩ | ⟨e1, rfl⟩
   · rcases hget h2 with ⟨_, a2⟩ | ⟨e2, rfl⟩
     · exact h.ld j1 j2 y1 y2 k hne a1 a2
     · intro hk hk2
       have := (hN j1 y1 a1).lv k hk
       have := hx.lv k hk2
       omega
   · rcases hget h2 with ⟨_, a2⟩ | ⟨e2, rfl⟩
     · intro hk hk2
       have := (hN j2 y2 a2).lv k hk2
       have := hx.lv k hk
       omega
     · exact absurd (e1.trans e2.symm) hne
 · rw [List.map_append, List.map_singleton, List.nodup_append]
   refine ⟨h.nd, by simp, fun a ha b hb e => ?_⟩
   have hb' : b = x.db := by simpa using hb
   obtain ⟨y, hy, rfl⟩ := List.mem_map.1 ha
   obtain ⟨j, hj⟩ := List.getElem?_of_mem hy
   have := (hN j y hj).db
   have := hx.db
   omega
end
theorem info35 : (Tryz.prog.info? 35).map (fun i => (i.zero, i.size, i.bytes)) = some (some (.pointer none), 1, 8) := by kernel_rfl
structure NF (B N : Nat) (w : World) (x : SdR) : Prop where
 sd : SD x.o B w x.db x.b x.rb x.s x.r
 sim : Sim x.s x.r 0
 ft : ∀ k ∈ x.ft, N ≤ k
 db : N ≤ x.db
 no : x.lnv = .slice none 0 0 ∧ x.ps = []
 new : ∃ (d : Int) (n : Nat), (1 ≤ d ∧ d ≤ 999) ∧ (1 ≤ n ∧ n ≤ 16) ∧ x.s.log = entN d n ∧ RQ (RSto.fresh d n 16) x.r
theorem fresh_side {B : Nat} (id : Int) (n : Nat) (W : World) (hB : B ≤ W.heap.size) (h1 : 1 ≤ id ∧ id ≤ 999) (h2 : 1 ≤ n ∧ n ≤ 16) :
  Calls Tryz.prog 7 #[.int .i64 id, .int .i64 n] W fun e w' => ∃ x : SdR, e = .returned (.tuple #[.pointer (some ⟨x.db, 0, none⟩), .bool true]) ∧ NF B W.heap.size w' x ∧ Fr [] W w' := by
 refine (fresh_ok id n W h1 h2).mono ?_
 rintro e w' ⟨db, b, vb, mb, lv, rb, rfl, hb, hdb, rp, rr, dis, f⟩
 have hft : ∀ k ∈ sft b rb (newS id n vb mb lv) (RSto.fresh id n 16), W.heap.size ≤ k := fun k hk => by
  rcases List.mem_append.1 hk with hk | hk
  · exact (rp.lt k hk).1
  · exact (rr.lt k hk).1
 refine ⟨⟨db, b, rb, newS id n vb mb lv, RSto.fresh id n 16, .slice none 0 0, []⟩, rfl, ⟨⟨hb, rp.base hB, rr.base hB, dis, by show B ≤ db; omega, sft_no rp rr hb (by decide)⟩, Sim.start id n vb mb lv h1 h2, hft, by show W.heap.size ≤ db; omega, ⟨rfl, rfl⟩, id, n, h1, h2, newS_log _ _ _ _ _, RQ.refl _⟩, f⟩
theorem NF.point {B N : Nat} {w W0 : World} {x : SdR} (h : NF B N w x) (hN : W0.heap.size = N) (hf : Fr [] W0 w) (hB : B ≤ w.heap.size) : Calls Tryz.prog 9 #[.pointer (some ⟨x.db, 0, none⟩)] w fun e w' => e = .returned (.tuple #[]) ∧ ∃ x' : SdR, x'.db = x.db ∧ NS B N w' x' ∧ Fr [] W0 w' := by
 obtain ⟨d, n, hd, hn, hlog, hrq⟩ := h.new
 have m := h.sim
 have row : w.ownsRow B 57 2 x.lnv x.ps.length (ptC x.ps) := by rw [h.no.1, h.no.2]; exact World.ownsRow_nil _ _ _ _
 refine (point_any B x.db x.b x.rb x.s x.r x.lnv x.ps w h.sd row (by rw [hlog, entN_len]; omega) (by have := m.glen; have := m.len; omega) (by have := m.mlen; have := m.len; omega) (by rw [h.no.2]; simp) (by rw [hlog, entN_len]; omega)).mono ?_
 rintro e w' ⟨rfl, v9, cb, rc, hp⟩
 obtain ⟨sd', row', rc', f⟩ := hp.out (rb := x.rb) h.sd row
 have hfs := hf.size
 have hlv : ∀ k, v9.ownBlock = some k → N ≤ k := fun k hk => by
  rcases hp.ob k hk with h1 | h1
  · rw [h.no.1] at h1
    simp [Value.ownBlock] at h1
  · omega
 refine ⟨rfl, { x with lnv := v9, ps := x.ps ++ [⟨cb, rc, x.s.log⟩] }, rfl, ⟨sd', m, h.ft, ⟨?_, fun p hpm => ?_⟩, fun i => ⟨?_, fun p hpl => ?_, fun _ p hpl => ?_, ?_⟩, fun p hpm k hk => ?_, hlv, h.db⟩, hf.trans f (fun k hk => ?_)⟩
 · show w'.ownsRow B 57 2 v9 (x.ps ++ [_]).length _
   rw [List.length_append, List.length_singleton]
   exact row'
 · have hpm' : p ∈ x.ps ++ [(⟨cb, rc, x.s.log⟩ : Pt)] := hpm
   rw [h.no.2] at hpm'
   have e : p = _ := List.mem_singleton.1 hpm'
   subst e
   exact rc'.baseL hB
 · refine ⟨d, n, ?_⟩
   show PCh d n ((x.ps ++ [_]).map Pt.lr)
   rw [h.no.2, hlog]
   exact PCh.one hd hn (hrq.trans hp.rq)
 · have e : p = _ := (Option.some.inj ((getLast_app _ _).symm.trans hpl)).symm
   subst e
   exact Or.inl ⟨rfl, hp.rq.symm⟩
 · have e : p = _ := (Option.some.inj ((getLast_app _ _).symm.trans hpl)).symm
   subst e
   exact ⟨rfl, hp.rq.symm⟩
 · show (x.ps ++ [_]).length ≤ _
   rw [h.no.2]
   simp
 · have hpm' : p ∈ x.ps ++ [(⟨cb, rc, x.s.log⟩ : Pt)] := hpm
   rw [h.no.2] at hpm'
   have e : p = _ := List.mem_singleton.1 hpm'
   subst e
   have h1 := (rc'.lt k hk).1
   refine ⟨by omega, fun hm => ?_⟩
   have := (h.sd.lt k hm).2
   omega
 · right
   rcases List.mem_cons.1 hk with rfl | hk
   · rw [hN]
     exact h.db
   · rcases List.mem_append.1 hk with hk | hk
     · rw [h.no.1] at hk
       simp [Value.ownBlock] at hk
     · rw [hN]
       exact h.ft k (List.mem_append_left _ hk)
theorem fresh_some (id n : Int) (W : World) :
  Calls Tryz.prog 7 #[.int .i64 id, .int .i64 n] W fun e w' => ∃ p : Option Addr, e = .returned (.tuple #[.pointer p, .bool true]) ∧ Fr [] W w' := by
 by_cases hb : ((decide (id < 1) || decide (999 < id)) || decide (n < 1)) = true ∨ 16 < n
 · refine (fresh_bad id n W hb).mono ?_
   rintro e w' ⟨rfl, rfl⟩
   exact ⟨none, rfl, Fr.refl _ _⟩
 · have h1 : ¬ ((decide (id < 1) || decide (999 < id)) || decide (n < 1)) = true := fun e => hb (Or.inl e)
   simp at h1
   obtain ⟨m, rfl⟩ : ∃ m : Nat, n = (m : Int) := ⟨n.toNat, by omega⟩
   refine (fresh_ok id m W (by omega) (by omega)).mono ?_
   rintro e w' ⟨db, b, vb, mb, lv, rb, rfl, _, _, _, _, _, f⟩
   exact ⟨_, rfl, f⟩
structure PL (w0 : World) (wb ib nb : Nat) (ids nums : List Int) (wr : World) (sv : Value) (sds : List SdR) : Prop where
 ls : LS w0 none w0.heap.size wr wb sv (.slice none 0 0) [] (.slice none 0 0) (.slice none 0 0) sds [] [] 0
 ci : wr.heap[ib]? = some (.cells (iC ids).toArray 22 (0, 0))
 cn : wr.heap[nb]? = some (.cells (iC nums).toArray 22 (0, 0))
section
variable {w0 : World} {wb ib nb : Nat} {ids nums : List Int} {wr w' : World} {sv : Value} {sds : List SdR}
theorem PL.same (h : PL w0 wb ib nb ids nums wr sv sds) (hf : Fr [] wr w') : PL w0 wb ib nb ids nums w' sv sds :=
 ⟨h.ls.same hf, by rw [hf.block ib (Array.getElem?_eq_some_iff.1 h.ci).1 (by simp)]; exact h.ci, by rw [hf.block nb (Array.getElem?_eq_some_iff.1 h.cn).1 (by simp)]; exact h.cn⟩
theorem PL.cells (h : PL w0 wb ib nb ids nums wr sv sds) {k : Nat} (hi : k < ids.length) (hn : k < nums.length) : wr.cell? ⟨ib, k, none⟩ = some (.int .i64 (tm ids k)) ∧ wr.cell? ⟨nb, k, none⟩ = some (.int .i64 (tm nums k)) := by
 refine ⟨?_, ?_⟩
 · rw [cell_of h.ci, List.getElem?_toArray]
   simp [iC, tm, hi]
 · rw [cell_of h.cn, List.getElem?_toArray]
   simp [iC, tm, hn]
theorem PL.add (h : PL w0 wb ib nb ids nums wr sv sds) {N : Nat} {x : SdR} (hN : ∀ (i : Nat) (y : SdR), sds[i]? = some y → LowN N y) (hx : NS w0.heap.size N wr x) {w9 : World} (hg : wr.grownBy w9 sv.ownBlock) {sv' : Value} (ho : w9.ownsRow w0.heap.size 35 1 sv' (sds.length + 1) (((sds.map SdR.db).map fun d => Value.pointer (some ⟨d, 0, none⟩)) ++ [Value.pointer (some ⟨x.db, 0, none⟩)])) : PL w0 wb ib nb ids nums (w9.setCell ⟨wb, 0, none⟩ sv') sv' (sds ++ [x]) := by
 have hfr : Fr (wb :: sv.ownBlock.toList) wr (w9.setCell ⟨wb, 0, none⟩ sv') := ((Fr.refl _ _).grown hg (fun k hk => Or.inl (by simp [hk]))).setCell _ (Or.inl (by simp))
 have hno : ∀ {k : Nat} {cs : Array Value}, wr.heap[k]? = some (.cells cs 22 (0, 0)) → k ∉ wb :: sv.ownBlock.toList := fun {k cs} e hm => by
  rcases List.mem_cons.1 hm with rfl | hm
  · rw [h.ls.wm.blk] at e
    simp at e
  · simp at hm
    obtain ⟨_, cur, e2⟩ := own_tag h.ls.wm.so hm
    rw [e2] at e
    simp at e
 exact ⟨h.ls.add hN hx hg ho, by rw [hfr.block ib (Array.getElem?_eq_some_iff.1 h.ci).1 (hno h.ci)]; exact h.ci, by rw [hfr.block nb (Array.getElem?_eq_some_iff.1 h.cn).1 (hno h.cn)]; exact h.cn⟩
theorem PL.cell0 (h : PL w0 wb ib nb ids nums wr sv sds) {w9 : World} (hg : wr.grownBy w9 sv.ownBlock) : w9.cell? ⟨wb, 0, none⟩ = some sv ∧ w9.frozen? ⟨wb, 0, none⟩ = false := by
 have lwb := (Array.getElem?_eq_some_iff.1 h.ls.wm.blk).1
 have hne : sv.ownBlock ≠ some wb := fun e => by
  obtain ⟨_, cur, h4⟩ := own_tag h.ls.wm.so e
  rw [h.ls.wm.blk] at h4
  simp at h4
 exact ⟨(hg.cell_far ⟨wb, 0, none⟩ lwb (Ne.symm hne)).trans h.ls.wm.cells.1, (hg.frozen_far ⟨wb, 0, none⟩ lwb (Ne.symm hne)).trans (froz_of h.ls.wm.blk _)⟩
end
structure OpV where
 k : Int
 at' : Int
 a : Int
 b : Int
 t : ByteArray
 lo : Option Addr
 zs : List Int
 c : Nat
structure OpsB (B : Nat) (w : World) (so : Option Addr) (ops : List OpV) (cap : Nat) : Prop where
 cap : ops.length ≤ cap
 len : ops.length ≤ 400000
 row : 0 < ops.length → ∃ g off, so = some ⟨g, off, none⟩ ∧ g < B ∧ ∀ (i : Nat) (o : OpV), ops[i]? = some o → w.cell? ⟨g, off + i * 6, none⟩ = some (.int .i64 o.k) ∧ w.cell? ⟨g, off + i * 6 + 1, none⟩ = some (.int .i64 o.at') ∧ w.cell? ⟨g, off + i * 6 + 2, none⟩ = some (.int .i64 o.a) ∧ w.cell? ⟨g, off + i * 6 + 3, none⟩ = some (.int .i64 o.b) ∧ w.cell? ⟨g, off + i * 6 + 4, none⟩ = some (.string o.t) ∧ w.cell? ⟨g, off + i * 6 + 5, none⟩ = some (.slice o.lo o.zs.length o.c)
 ok : ∀ (i : Nat) (o : OpV), ops[i]? = some o → OpOk B w o.at' o.a o.b o.lo o.zs o.c
 ts : ∀ (i : Nat) (o : OpV), ops[i]? = some o → o.t.size ≤ 2000000
theorem OpOk.keep {B : Nat} {w w' : World} {at' a b : Int} {lo : Option Addr} {zs : List Int} {c : Nat} (h : OpOk B w at' a b lo zs c) (hb : Below B w w') : OpOk B w' at' a b lo zs c := by
 refine ⟨h.at', h.a, ⟨h.row.1, fun h0 => ?_⟩, h.nil, h.low, h.fit, h.len⟩
 obtain ⟨g, off, e, hc⟩ := h.row.2 h0
 refine ⟨g, off, e, fun i hi => ?_⟩
 rw [hb.cell (p := ⟨g, off + i, none⟩) (h.low g off e h0)]
 exact hc i hi
theorem OpsB.keep {B : Nat} {w w' : World} {so : Option Addr} {ops : List OpV} {cap : Nat} (h : OpsB B w so ops cap) (hb : Below B w w') : OpsB B w' so ops cap := by
 refine ⟨h.cap, h.len, fun h0 => ?_, fun i o ho => (h.ok i o ho).keep hb, h.ts⟩
 obtain ⟨g, off, e, hg, hc⟩ := h.row h0
 refine ⟨g, off, e, hg, fun i o ho => ?_⟩
 obtain ⟨c0, c1, c2, c3, c4, c5⟩ := hc i o ho
 have hk : ∀ j, w'.cell? ⟨g, j, none⟩ = w.cell? ⟨g, j, none⟩ := fun j => hb.cell (p := ⟨g, j, none⟩) hg
 exact ⟨(hk _).trans c0, (hk _).trans c1, (hk _).trans c2, (hk _).trans c3, (hk _).trans c4, (hk _).trans c5⟩
set_option maxRecDepth 100000 in
set_option maxHeartbeats 3200000 in
theorem plays_any (w : World) (i0 i1 i2 n0 n1 n2 : Int) (so : Option Addr) (ops : List OpV) (cap : Nat) (hop : OpsB w.heap.size w so ops cap) (hid : ∀ k, k < 3 → In64 (tm [i0, i1, i2] k)) (hnm : ∀ k, k < 3 → In64 (tm [n0, n1, n2] k)) :
  Calls Tryz.prog 6 #[.agg #[.int .i64 i0, .int .i64 i1, .int .i64 i2], .agg #[.int .i64 n0, .int .i64 n1, .int .i64 n2], .slice so ops.length cap, .int .i64 15] w fun e w' => e = .returned (.bool true) ∧ Below w.heap.size w w' := by
 obtain ⟨t0, hi, hz0, hz1, hz2⟩ := info_parts info35
 go_enter Tryz.func6, Tryz.ntmps6
 go_wp2
 obtain ⟨W1, hW1⟩ : ∃ W1, ((w.alloc (.cells #[.int .i64 i0, .int .i64 i1, .int .i64 i2] 22)).alloc (.cells #[.int .i64 n0, .int .i64 n1, .int .i64 n2] 22)).alloc (.cells #[.slice none 0 0, .slice none 0 0, .slice none 0 0, .slice none 0 0] 34) = W1 := ⟨_, rfl⟩
 obtain ⟨ib, hib⟩ : ∃ ib, w.heap.size = ib := ⟨_, rfl⟩
 obtain ⟨nb, hnb⟩ : ∃ nb, ib + 1 = nb := ⟨_, rfl⟩
 obtain ⟨wb, hwb⟩ : ∃ wb, nb + 1 = wb := ⟨_, rfl⟩
 have HP1 : Hid (PL w wb ib nb [i0, i1, i2] [n0, n1, n2] W1 (.slice none 0 0) []) := by
  have f1 : Fr [] w W1 := by rw [← hW1]; exact (((Fr.refl _ _).alloc _).alloc _).alloc _
  have bw : W1.heap[wb]? = some (.cells #[.slice none 0 0, .slice none 0 0, .slice none 0 0, .slice none 0 0] 34 (0, 0)) := by
   rw [← hW1, ← hwb, ← hnb, ← hib]
   have h8 := heap_alloc_new ((w.alloc (.cells #[.int .i64 i0, .int .i64 i1, .int .i64 i2] 22)).alloc (.cells #[.int .i64 n0, .int .i64 n1, .int .i64 n2] 22)) (.cells #[.slice none 0 0, .slice none 0 0, .slice none 0 0, .slice none 0 0] 34)
   simpa using h8
  have bn : W1.heap[nb]? = some (.cells (iC [n0, n1, n2]).toArray 22 (0, 0)) := by
   rw [← hW1, ← hnb, ← hib]
   have h8 := heap_alloc_new (w.alloc (.cells #[.int .i64 i0, .int .i64 i1, .int .i64 i2] 22)) (.cells #[.int .i64 n0, .int .i64 n1, .int .i64 n2] 22)
   rw [Below.heap_alloc _ _ _ (by simp)]
   simpa [iC] using h8
  have bi : W1.heap[ib]? = some (.cells (iC [i0, i1, i2]).toArray 22 (0, 0)) := by
   rw [← hW1, ← hib]
   rw [Below.heap_alloc _ _ _ (by simp; omega), Below.heap_alloc _ _ _ (by simp)]
   have h8 := heap_alloc_new w (.cells #[.int .i64 i0, .int .i64 i1, .int .i64 i2] 22)
   simpa [iC] using h8
  exact ⟨⟨⟨bw, World.ownsRow_nil _ _ _ _, World.ownsRow_nil _ _ _ _, World.ownsRow_nil _ _ _ _, by simp, by simp, by omega, World.ownsRow_nil _ _ _ _⟩, by simp, by simp, by simp, by simp, by simp, f1.below (Nat.le_refl _) (by simp), by simp, by simp, by simp, by simp, by simp⟩, bi, bn⟩
 have HNs : Hid ((∀ k, k < 3 → In64 (tm [i0, i1, i2] k)) ∧ (∀ k, k < 3 → In64 (tm [n0, n1, n2] k))) := ⟨hid, hnm⟩
 rw [hW1, hib, hnb, hwb]
 have HIb : Hid (w.heap.size = ib) := hib
 have HOp : Hid (OpsB w.heap.size w so ops cap) := hop
 clear hW1 hib hnb hwb hid hnm hop
 go_loopw [10] (fun i wr => ∃ k : Nat, k ≤ 3 ∧ i = .int .i64 k ∧ Hid (∃ sv sds, PL w wb ib nb [i0, i1, i2] [n0, n1, n2] wr sv sds ∧ sds.length = k)) (fun i _ => 3 - (intOf i).toNat)
 case atStart => exact ⟨0, by omega, rfl, _, _, HP1.out, rfl⟩
 case round =>
  obtain ⟨k, hk, rfl, HK⟩ := hrel
  obtain ⟨W3, hW3⟩ : ∃ W3, W3 = wr := ⟨_, rfl⟩
  subst hW3
  clear HP1
  obtain ⟨sv, sds, hP, hsl⟩ := HK.out
  by_cases hlt : k < 3
  · have hltz : (k : Int) < 3 := by omega
    have k0 : (0 : Int) ≤ (k : Int) := by omega
    obtain ⟨ci, cn⟩ := hP.cells (k := k) (by simpa using hlt) (by simpa using hlt)
    have bid := HNs.out.1 k hlt
    have bnm := HNs.out.2 k hlt
    obtain ⟨id, hid⟩ : ∃ id, tm [i0, i1, i2] k = id := ⟨_, rfl⟩
    obtain ⟨n, hn⟩ : ∃ n, tm [n0, n1, n2] k = n := ⟨_, rfl⟩
    rw [hid] at ci bid
    rw [hn] at cn bnm
    have pi1 := pk_lt id 999 (by omega)
    have pn1 := pk_lt n 16 (by omega)
    obtain ⟨pi, hpi⟩ : ∃ pi : Int, pk id 999 = pi := ⟨_, rfl⟩
    obtain ⟨pn, hpn⟩ : ∃ pn : Nat, pk n 16 = (pn : Int) := ⟨(pk n 16).toNat, by omega⟩
    rw [hpi] at pi1
    rw [hpn] at pn1
    have HPi : Hid (∀ W, Calls Tryz.prog 8 #[.int .i64 id, .int .i64 999] W fun e w' => e = .returned (.int .i64 pi) ∧ w' = W) := fun W => by rw [← hpi]; exact pick_any id 999 W bid (by omega) (by omega)
    have HPn : Hid (∀ W, Calls Tryz.prog 8 #[.int .i64 n, .int .i64 16] W fun e w' => e = .returned (.int .i64 pn) ∧ w' = W) := fun W => by rw [← hpn]; exact pick_any n 16 W bnm (by omega) (by omega)
    have q1 : IntKind.i64.wrap (1 + pi) = 1 + pi := wrap_fit ⟨by omega, by omega⟩
    have q2 : IntKind.i64.wrap (1 + (pn : Int)) = 1 + (pn : Int) := wrap_fit ⟨by omega, by omega⟩
    have HF1 : Hid (∀ W, Calls Tryz.prog 7 #[.int .i64 id, .int .i64 n] W fun e w' => ∃ p : Option Addr, e = .returned (.tuple #[.pointer p, .bool true]) ∧ Fr [] W w') := fun W => fresh_some id n W
    obtain ⟨sa, sc, hsv⟩ := own_shape hP.ls.wm.so
    rw [List.length_map, hsl] at hsv
    subst hsv
    have HRo : Hid (∀ W, Fr [] W3 W → W.ownsRow w.heap.size 35 1 (.slice sa k sc) k ((sds.map SdR.db).map fun d => Value.pointer (some ⟨d, 0, none⟩)) ∧ W.cell? ⟨wb, 0, none⟩ = some (.slice sa k sc) ∧ w.heap.size ≤ W.heap.size) := fun W hW => by
     have h8 := (hP.same hW).ls
     have h9 := h8.wm.so
     rw [List.length_map, hsl] at h9
     exact ⟨h9, h8.wm.cells.1, h8.hB⟩
    have HF2 : Hid (∀ (id2 m2 : Int), (1 ≤ id2 ∧ id2 ≤ 999) → (1 ≤ m2 ∧ m2 ≤ 16) → ∀ W, Fr [] W3 W → Calls Tryz.prog 7 #[.int .i64 id2, .int .i64 m2] W fun e w' => ∃ x : SdR, e = .returned (.tuple #[.pointer (some ⟨x.db, 0, none⟩), .bool true]) ∧ NF w.heap.size W3.heap.size w' x ∧ Fr [] W3 w') := fun id2 m2 h1 h2 W hW => by
     have h8 := fresh_side (B := w.heap.size) id2 m2.toNat W (HRo.out W hW).2.2 h1 (by omega)
     rw [Int.toNat_of_nonneg (by omega)] at h8
     refine h8.mono ?_
     rintro e w' ⟨x, rfl, fs, f⟩
     exact ⟨x, rfl, ⟨fs.sd, fs.sim, fun k hk => Nat.le_trans hW.size (fs.ft k hk), Nat.le_trans hW.size fs.db, fs.no, fs.new⟩, hW.trans f (by simp)⟩
    have HAd : Hid (∀ (w7 w9 : World) (x : SdR) (v9 : Value), Fr [] W3 w7 → NS w.heap.size W3.heap.size w7 x → w7.grownBy w9 (Value.slice sa k sc).ownBlock → w9.ownsRow w.heap.size 35 1 v9 (k + 1) (((sds.map SdR.db).map fun d => Value.pointer (some ⟨d, 0, none⟩)) ++ [Value.pointer (some ⟨x.db, 0, none⟩)]) → (w9.cell? ⟨wb, 0, none⟩ = some (.slice sa k sc) ∧ w9.frozen? ⟨wb, 0, none⟩ = false) ∧ ∃ sv sds, PL w wb ib nb [i0, i1, i2] [n0, n1, n2] (w9.setCell ⟨wb, 0, none⟩ v9) sv sds ∧ sds.length = k + 1) := fun w7 w9 x v9 f hx hg ho => by
     have P7 := hP.same f
     refine ⟨P7.cell0 hg, v9, sds ++ [x], ?_, by simp [hsl]⟩
     exact P7.add (N := W3.heap.size) (fun i y hy => hP.ls.lowN hy) hx hg (by rw [hsl]; exact ho)
    have HF9 : Hid (∀ (w7 : World) (x : SdR), NF w.heap.size W3.heap.size w7 x → Fr [] W3 w7 → Calls Tryz.prog 9 #[.pointer (some ⟨x.db, 0, none⟩)] w7 fun e w' => e = .returned (.tuple #[]) ∧ ∃ x' : SdR, x'.db = x.db ∧ NS w.heap.size W3.heap.size w' x' ∧ Fr [] W3 w') := fun w7 x fs f => fs.point rfl f (HRo.out w7 f).2.2
    clear hP HK hid hn hpi hpn bid bnm
    rcases (by omega : (1 ≤ id ∧ id ≤ 999) ∨ id < 1 ∨ 999 < id) with b1 | b1 | b1 <;> rcases (by omega : (1 ≤ n ∧ n ≤ 16) ∨ n < 1 ∨ 16 < n) with b2 | b2 | b2
    all_goals
     try have t1 : ¬ id < 1 := by omega
     try have t2 : ¬ 999 < id := by omega
     try have t3 : ¬ n < 1 := by omega
     try have t4 : ¬ 16 < n := by omega
     go_wp2_with (first
         | (at_builtin; refine wpList_append_own _ rfl _ _ 27 rfl w.heap.size 35 t0 _ 1 8 Tryz.underlying27 hi hz0 hz1 hz2 rfl (by omega) (.slice sa k sc) k ((sds.map SdR.db).map fun d => Value.pointer (some ⟨d, 0, none⟩)) rfl ((HRo.out w8 H8.out.2.2).1.alloc _) ⟨w8.heap.size, 0, none⟩ 1 1 [.pointer (some ⟨x7.db, 0, none⟩)] rfl rfl (World.news_of_block (cs := #[.pointer (some ⟨x7.db, 0, none⟩)]) (t := 35) (fr := (0, 0)) (heap_alloc_new w8 _)) (by simp [Value.oneCell']) (by unfold maxLen; omega) (by omega) (by have h8 := (HRo.out w8 H8.out.2.2).2.2; simp; omega) ?_; intro v9 w9 hown9 hgrow9 _; obtain ⟨va9, vc9, hv9⟩ := own_shape hown9; subst hv9; obtain ⟨⟨c9, z9⟩, p9⟩ := HAd.out _ w9 x8 _ (H8.out.2.2.alloc _) (H8.out.2.1.same ((Fr.refl _ _).alloc _)) hgrow9 (by rw [H8.out.1]; exact hown9); have H9 : Hid (∃ sv sds, PL w wb ib nb [i0, i1, i2] [n0, n1, n2] (w9.setCell ⟨wb, 0, none⟩ (.slice va9 (k + 1) vc9)) sv sds ∧ sds.length = k + 1) := p9; clear hown9 hgrow9 p9)
         | (go_at_call 7; refine (HF2.out _ _ (by omega) (by omega) w6 H6.out).mono ?_; rintro e w7 ⟨x7, rfl, s7, f7⟩; have H7 : Hid (NF w.heap.size W3.heap.size w7 x7 ∧ Fr [] W3 w7) := ⟨s7, f7⟩; clear s7 f7)
         | (go_at_call 9; refine (HF9.out w7 x7 H7.out.1 H7.out.2).mono ?_; rintro e w8 ⟨rfl, x8, e8, s8, f8⟩; have H8 : Hid (x8.db = x7.db ∧ NS w.heap.size W3.heap.size w8 x8 ∧ Fr [] W3 w8) := ⟨e8, s8, f8⟩; have c8 := (HRo.out w8 f8).2.1; clear e8 s8 f8)
         | (go_at_call 7; refine (HF1.out W3).mono ?_; rintro e w6 ⟨p6, rfl, f6⟩; have H6 : Hid (Fr [] W3 w6) := f6; clear f6)
         | (go_at_call_of 8 id; refine (HPi.out _).mono ?_; rintro e w' ⟨rfl, hw'⟩; have hw'' := hw'.symm; subst hw'')
         | (go_at_call_of 8 n; refine (HPn.out _).mono ?_; rintro e w' ⟨rfl, hw'⟩; have hw'' := hw'.symm; subst hw''))
     go_roundw
     case rel => exact ⟨k + 1, by omega, by go_num, H9⟩
     case measure => simp [intOf]; omega
  · have hk3 : k = 3 := by omega
    obtain ⟨zk, hzk⟩ : ∃ zk : Int, (k : Int) = zk := ⟨_, rfl⟩
    have hz3 : ¬ zk < 3 := by omega
    have HL : Hid (∃ j, j ≤ 0 ∧ LX w w.heap.size W3 wb sv (sds.map SdR.db) j) := ⟨0, Nat.le_refl _, _, _, _, _, sds, [], [], hP.ls, rfl⟩
    obtain ⟨D, hD⟩ : ∃ D, sds.map SdR.db = D := ⟨_, rfl⟩
    have hD3 : D.length = 3 := by rw [← hD, List.length_map]; rw [hsl]; exact hk3
    rw [hD] at HL
    obtain ⟨n, hn⟩ : ∃ n, ops.length = n := ⟨_, rfl⟩
    have hn1 : n ≤ 400000 := by rw [← hn]; exact HOp.out.len
    clear hP HK hD HNs HIb
    rw [hn, hzk]
    clear hzk hk3 hsl hlt hk
    go_wp2
    go_loopw [17] (fun i wr => ∃ k : Nat, k ≤ n ∧ i = .int .i64 k ∧ Hid (∃ j, j ≤ 2 * k ∧ LX w w.heap.size wr wb sv D j)) (fun i _ => n - (intOf i).toNat)
    case atStart => exact ⟨0, by omega, rfl, HL⟩
    case round =>
     obtain ⟨k, hk, rfl, HK⟩ := hrel
     obtain ⟨W4, hW4⟩ : ∃ W4, W4 = wr := ⟨_, rfl⟩
     subst hW4
     clear HL
     by_cases hlt : k < n
     · have hltz : (k : Int) < (n : Int) := by omega
       have k0 : (0 : Int) ≤ (k : Int) := by omega
       obtain ⟨j, hj, tv, T, kv, mv, sds', K, M, ls, hD'⟩ := HK.out
       have hS := HOp.out.keep ls.be
       obtain ⟨g, off, hso, hg, hc⟩ := hS.row (by omega)
       obtain ⟨o, ho⟩ : ∃ o, ops[k]? = some o := ⟨_, List.getElem?_eq_getElem (by omega)⟩
       obtain ⟨c0, c1, c2, c3, c4, c5⟩ := hc k o ho
       have hok := hS.ok k o ho
       have hs3 : sds'.length = 3 := by rw [← List.length_map (f := SdR.db), hD', hD3]
       have HSt : Hid (o.k ≤ 15 → ∀ W, Fr [] W4 W → Calls Tryz.prog 10 #[.pointer (some ⟨wb, 0, none⟩), .agg #[.int .i64 o.k, .int .i64 o.at', .int .i64 o.a, .int .i64 o.b, .string o.t, .slice o.lo o.zs.length o.c], .bool true] W fun e w' => e = .returned (.bool true) ∧ LX w w.heap.size w' wb sv D (j + 2)) := fun h11 W hW => by
        have h8 := step_logs w w.heap.size wb sv tv T kv mv sds' K M j o.k o.at' o.a o.b o.t o.lo o.zs o.c W (ls.same hW) hs3 h11 (hok.same hW) (hS.ts k o ho) (by omega)
        rw [hD'] at h8
        exact h8
       have HLo : Hid (∀ W, LX w w.heap.size W wb sv D (j + 2) → Calls Tryz.prog 11 #[.pointer (some ⟨wb, 0, none⟩)] W fun e w' => e = .returned (.bool true) ∧ LX w w.heap.size w' wb sv D (j + 2)) := fun W hW => by
        obtain ⟨tv, T, kv, mv, sds2, K, M, l2, hD2⟩ := hW
        have hkl := l2.kl
        refine (looks_any w.heap.size wb sv tv T kv mv _ K M W l2.wm (by omega) (by omega) l2.kb.1 l2.kb.2).mono ?_
        rintro e w' ⟨rfl, f⟩
        exact ⟨rfl, tv, T, kv, mv, sds2, K, M, l2.same f, hD2⟩
       have HSame : Hid (∀ W, Fr [] W4 W → ∃ j, j ≤ 2 * (k + 1) ∧ LX w w.heap.size W wb sv D j) := fun W hW => ⟨j, by omega, tv, T, kv, mv, sds', K, M, ls.same hW, hD'⟩
       obtain ⟨kk, hkk⟩ : ∃ kk, o.k = kk := ⟨_, rfl⟩
       obtain ⟨ka, hka⟩ : ∃ ka, o.at' = ka := ⟨_, rfl⟩
       obtain ⟨oa, hoa⟩ : ∃ oa, o.a = oa := ⟨_, rfl⟩
       obtain ⟨ob, hob⟩ : ∃ ob, o.b = ob := ⟨_, rfl⟩
       obtain ⟨ot, hot⟩ : ∃ ot, o.t = ot := ⟨_, rfl⟩
       obtain ⟨ol, hol⟩ : ∃ ol, o.lo = ol := ⟨_, rfl⟩
       obtain ⟨oz, hoz⟩ : ∃ oz, o.zs.length = oz := ⟨_, rfl⟩
       obtain ⟨oc, hoc⟩ : ∃ oc, o.c = oc := ⟨_, rfl⟩
       rw [hkk, hka, hoa, hob, hot, hol, hoz, hoc] at HSt
       rw [hkk] at c0
       rw [hka] at c1
       rw [hoa] at c2
       rw [hob] at c3
       rw [hot] at c4
       rw [hol, hoz, hoc] at c5
       subst hso
       clear HK ls hS hc ho hok hs3 hD' hkk hka hoa hob hot hol hoz hoc HOp hg
       by_cases h11 : kk ≤ 15
       · have t5 : ¬ 15 < kk := by omega
         go_wp2_with (first
          | (go_at_call 11; refine (HLo.out _ H5.out).mono ?_; rintro e w6 ⟨rfl, l6⟩; have H6 : Hid (LX w w.heap.size w6 wb sv D (j + 2)) := l6; clear l6)
          | (go_at_call 10; refine (HSt.out h11 _ Fr.dd).mono ?_; rintro e w5 ⟨rfl, l5⟩; have H5 : Hid (LX w w.heap.size w5 wb sv D (j + 2)) := l5; clear l5))
         go_roundw
         case rel => exact ⟨k + 1, by omega, by go_num, j + 2, by omega, H6.out⟩
         case measure => simp [intOf]; omega
       · have t5 : 15 < kk := by omega
         go_wp2
         go_roundw
         case rel => exact ⟨k + 1, by omega, by go_num, HSame.out _ Fr.dd⟩
         case measure => simp [intOf]; omega
     · obtain rfl : k = n := by omega
       go_wp2
       go_ret
       obtain ⟨j, hj, tv, T, kv, mv, sds', K, M, ls, hD'⟩ := HK.out
       exact ⟨rfl, ls.be⟩
end Go.Proofs.YthdhegmlknpllaaGreat
