import Derived.Test.YthdhegmlknpllaaGreatM44
namespace Go.Proofs.YthdhegmlknpllaaGreat
open Go.RowKit Go.Maps Go.MuLone
def QC {α : Type} (f : α → Value) (w0 : World) (i : Nat) (lnv : Value) (B wb : Nat) (sv : Value) (D : List Nat) (q db b rb ob : Nat) (o : Obj) (fr : Nat) (args : Array Value) (e : Ending) (w1 : World) : Prop :=
 ∃ a : α, e = .returned (f a) ∧ w1.heap[db]? = some (sdO b rb lnv) ∧ w1.heap[ob]? = some o ∧ ∀ W, Fr [] w1 W → Calls Tryz.prog fr args W fun e2 w2 => e2 = .returned (f a) ∧ LP w0 (some i) B w2 wb sv D (q + 1) ∧ w2.heap[db]? = some (sdO b rb lnv) ∧ w2.heap[ob]? = some o
theorem PC.q {α : Type} {f : α → Value} {w0 : World} {B wb : Nat} {sv tv : Value} {T : List ByteArray} {kv mv : Value} {sds : List SdR} {K M : List (Nat × Nat × Nat)} {q i fr ob : Nat} {x : SdR} {args : Array Value} {w w1 : World} {e : Ending} {cs : Array Value} (h : LS w0 none B w wb sv tv T kv mv sds K M q) (hx : sds[i]? = some x) (ho : w.heap[ob]? = some (.cells cs 41 (0, 0))) (p : PC f x.o B w x.db x.b x.rb x.s x.r q fr args e w1) : QC f w0 i x.lnv B wb sv (sds.map SdR.db) q x.db x.b x.rb ob (.cells cs 41 (0, 0)) fr args e w1 := by
 obtain ⟨a, he, ⟨b1, f1⟩, hr⟩ := p
 refine ⟨a, he, b1, ?_, fun W hW => ?_⟩
 · rw [f1.block ob (Array.getElem?_eq_some_iff.1 ho).1 ((h.sd i x hx).1.no ho (by decide))]
   exact ho
 · refine (hr W hW).mono ?_
   rintro e2 w2 ⟨he2, sn⟩
   refine ⟨he2, h.side hx sn, ?_, sn.keep (h.sd i x hx).1 ho (by decide)⟩
   obtain ⟨s', r', sd', _⟩ := sn
   exact sd'.blk
set_option maxRecDepth 100000 in
set_option maxHeartbeats 1600000 in
theorem store_write (w0 : World) (B wb : Nat) (sv tv : Value) (T : List ByteArray) (kv mv : Value) (sds : List SdR) (K M : List (Nat × Nat × Nat)) (q : Nat) (i : Nat) (x : SdR) (at' a b : Int) (t : ByteArray) (lo : Option Addr) (n c : Nat) (w : World) (h : LS w0 none B w wb sv tv T kv mv sds K M q) (hx : sds[i]? = some x) (hq : q ≤ 2000000) :
  Calls Tryz.prog 16 #[.pointer (some ⟨wb, 0, none⟩), .pointer (some ⟨x.db, 0, none⟩), .agg #[.int .i64 1, .int .i64 at', .int .i64 a, .int .i64 b, .string t, .slice lo n c]] w fun e w' => e = .returned (.bool true) ∧ LP w0 (some i) B w' wb sv (sds.map SdR.db) (q + 1) := by
 obtain ⟨db, hdb⟩ : ∃ db, x.db = db := ⟨_, rfl⟩
 obtain ⟨xb, hxb⟩ : ∃ xb, x.b = xb := ⟨_, rfl⟩
 obtain ⟨rb, hrb⟩ : ∃ rb, x.rb = rb := ⟨_, rfl⟩
 obtain ⟨lnv, hlnv⟩ : ∃ v, x.lnv = v := ⟨_, rfl⟩
 obtain ⟨D, hD⟩ : ∃ D, sds.map SdR.db = D := ⟨_, rfl⟩
 obtain ⟨W1, hW1⟩ : ∃ W1, w.alloc (.cells #[.int .i64 1, .int .i64 at', .int .i64 a, .int .i64 b, .string t, .slice lo n c] 41) = W1 := ⟨_, rfl⟩
 obtain ⟨ob, hob⟩ : ∃ ob, w.heap.size = ob := ⟨_, rfl⟩
 have o1 : W1.heap[ob]? = some (.cells #[.int .i64 1, .int .i64 at', .int .i64 a, .int .i64 b, .string t, .slice lo n c] 41 (0, 0)) := by rw [← hW1, ← hob]; exact heap_alloc_new w _
 have h1 : LS w0 none B W1 wb sv tv T kv mv sds K M q := h.same (by rw [← hW1]; exact (Fr.refl _ _).alloc _)
 have d1 : W1.heap[db]? = some (sdO xb rb lnv) := by rw [← hdb, ← hxb, ← hrb, ← hlnv]; exact (h1.sd i x hx).1.blk
 have HCs : Hid (∀ W : World, W.heap[ob]? = some (.cells #[.int .i64 1, .int .i64 at', .int .i64 a, .int .i64 b, .string t, .slice lo n c] 41 (0, 0)) → W.heap[db]? = some (sdO xb rb lnv) → W.cell? ⟨ob, 0, none⟩ = some (.int .i64 1) ∧ W.cell? ⟨ob, 2, none⟩ = some (.int .i64 a) ∧ W.cell? ⟨ob, 4, none⟩ = some (.string t) ∧ W.cell? ⟨db, 0, none⟩ = some (.pointer (some ⟨xb, 0, none⟩)) ∧ W.cell? ⟨db, 1, none⟩ = some (.pointer (some ⟨rb, 0, none⟩))) := fun W e1 e2 => by
  refine ⟨?_, ?_, ?_, ?_, ?_⟩
  · rw [cell_of e1]; rfl
  · rw [cell_of e1]; rfl
  · rw [cell_of e1]; rfl
  · rw [cell_of e2]; rfl
  · rw [cell_of e2]; rfl
 obtain ⟨k0, k2, k4, k5, k6⟩ := HCs.out W1 o1 d1
 have HP : Hid (∀ W, Fr [] W1 W → Calls Tryz.prog 25 #[.pointer (some ⟨xb, 0, none⟩), .int .i64 a, .string t] W (QC fC w0 i lnv B wb sv D q db xb rb ob (.cells #[.int .i64 1, .int .i64 at', .int .i64 a, .int .i64 b, .string t, .slice lo n c] 41 (0, 0)) 26 #[.pointer (some ⟨rb, 0, none⟩), .int .i64 a, .string t])) := fun W hW => by
  have hW2 := h1.same hW
  have oW : W.heap[ob]? = some (.cells #[.int .i64 1, .int .i64 at', .int .i64 a, .int .i64 b, .string t, .slice lo n c] 41 (0, 0)) := by rw [hW.block ob (Array.getElem?_eq_some_iff.1 o1).1 (by simp)]; exact o1
  rw [← hdb, ← hxb, ← hrb, ← hlnv, ← hD]
  exact (p_write (hW2.sd i x hx).1 (hW2.sd i x hx).2 a t hq).mono fun e w1 p => p.q hW2 hx oW
 rw [hdb, hD]
 clear h h1 hx o1 d1 hdb hxb hrb hlnv hD
 go_enter Tryz.func16, Tryz.ntmps16
 go_wp2
 clear hW1 hob
 go_region_held3 (fun w' => w'.cell? ⟨ob, 2, none⟩ = some (.int .i64 a) ∧ w'.cell? ⟨ob, 4, none⟩ = some (.string t) ∧ w'.cell? ⟨db, 0, none⟩ = some (.pointer (some ⟨xb, 0, none⟩)))
  (first
   | exact ⟨y2, y4, y5⟩
   | go_keep)
  (first
   | (go_at_call 25; refine (HP.out _ Fr.dd).mono ?_; rintro e w4 ⟨z, rfl, b4, o4, hr4⟩; have H4 : Hid (∀ W, Fr [] w4 W → Calls Tryz.prog 26 #[.pointer (some ⟨rb, 0, none⟩), .int .i64 a, .string t] W fun e2 w2 => e2 = .returned (.int .i64 z) ∧ LP w0 (some i) B w2 wb sv D (q + 1) ∧ w2.heap[db]? = some (sdO xb rb lnv) ∧ w2.heap[ob]? = some (.cells #[.int .i64 1, .int .i64 at', .int .i64 a, .int .i64 b, .string t, .slice lo n c] 41 (0, 0))) := hr4; obtain ⟨y0, y2, y4, y5, y6⟩ := HCs.out w4 o4 b4; rw [show fC z = Value.int .i64 z from rfl]; clear b4 o4 hr4))
 all_goals
  go_wp2
  go_region_held3 (fun w' => w'.cell? ⟨ob, 2, none⟩ = some (.int .i64 a) ∧ w'.cell? ⟨ob, 4, none⟩ = some (.string t) ∧ w'.cell? ⟨db, 1, none⟩ = some (.pointer (some ⟨rb, 0, none⟩)))
   (first
    | exact ⟨z2, z4, z6⟩
    | go_keep)
   (first
    | (go_at_call 26; refine (H4.out _ Fr.dd).mono ?_; rintro e w5 ⟨rfl, l5, b5, o5⟩; have H5 : Hid (LP w0 (some i) B w5 wb sv D (q + 1)) := l5; obtain ⟨z0, z2, z4, z5, z6⟩ := HCs.out w5 o5 b5; clear l5 b5 o5))
  all_goals
   go_wp2
   go_ret
   exact ⟨rfl, H5.out⟩
end Go.Proofs.YthdhegmlknpllaaGreat
