import Derived.Test.YthdhegmlknpllaaGreatM45
import Derived.Test.YthdhegmlknpllaaGreatM46
import Derived.Test.YthdhegmlknpllaaGreatM48
namespace Go.Proofs.YthdhegmlknpllaaGreat
open Go.RowKit Go.Maps Go.MuLone
section
variable {w0 : World} {di : Option Nat} {B : Nat} {w w' : World} {wb : Nat} {sv tv : Value} {T : List ByteArray} {kv mv : Value} {sds : List SdR} {K M : List (Nat × Nat × Nat)} {q : Nat}
theorem LS.still (h : LS w0 di B w wb sv tv T kv mv sds K M q) {i : Nat} {x : SdR} (hx : sds[i]? = some x) (rp : Rep B w' x.b 0 x.s) (f : Fr (foot x.b x.s) w w') : LS w0 di B w' wb sv tv T kv mv sds K M q := by
 have sdi := (h.sd i x hx).1
 have tg := sft_tags sdi
 refine ⟨h.wm.fr f (fun j hj cur t e => by rcases tg j (List.mem_append_left _ hj) cur t e with h | h | h | h | h | h | h | h <;> subst h <;> decide), fun j y hy => ?_, h.dj, h.k4, h.kl, h.kb, h.be.trans (f.below h.hB (fun k hk => (sdi.rep.lt k hk).1)), h.tl, fun j y hy => ⟨(h.ln j y hy).1.fr f (fun k hk cur e => by have := tg k (List.mem_append_left _ hk) cur _ e; simp at this) (fun p hp k hk hm => h.cd j i y x hy hx p hp k hk (List.mem_append_left _ hm)), (h.ln j y hy).2⟩, h.cd, h.ld, h.nd⟩
 by_cases e : j = i
 · subst e
   have hyx : y = x := by rw [hx] at hy; exact (Option.some.inj hy).symm
   subst hyx
   refine ⟨⟨?_, rp, sdi.rrep.kept f (fun k hk hm => sdi.dis k hm hk), sdi.dis, sdi.hdb, sdi.ndb⟩, (h.sd j y hy).2⟩
   rw [f.block y.db (Array.getElem?_eq_some_iff.1 sdi.blk).1 (fun hm => sdi.ndb (List.mem_append_left _ hm))]
   exact sdi.blk
 · have hj := h.sd j y hy
   refine ⟨hj.1.fr f (fun k hk hm => h.dj j i y x e hy hx k hk (List.mem_append_left _ hm)) (fun hm => ?_), hj.2⟩
   have := tg y.db (List.mem_append_left _ hm) _ _ hj.1.blk
   simp at this
theorem LS.kfar (h : LS w0 none B w wb sv tv T kv mv sds K M q) {g : Nat} (hg : w.heap.size ≤ g) : (∀ x ∈ K, x.1 ≠ g) ∧ (∀ x ∈ M, x.1 ≠ g) := by
 refine ⟨fun x hx => ?_, fun x hx => ?_⟩
 · obtain ⟨i, hi, e⟩ := List.getElem_of_mem hx
   have := (h.wm.kk i x (by rw [List.getElem?_eq_getElem hi, e])).2.lt
   omega
 · obtain ⟨i, hi, e⟩ := List.getElem_of_mem hx
   have := (h.wm.mi i x (by rw [List.getElem?_eq_getElem hi, e])).2.lt
   omega
end
set_option maxRecDepth 100000 in
set_option maxHeartbeats 1600000 in
theorem store_destroy (w0 : World) (B wb : Nat) (sv tv : Value) (T : List ByteArray) (kv mv : Value) (sds : List SdR) (K M : List (Nat × Nat × Nat)) (q : Nat) (i : Nat) (x : SdR) (at' a b : Int) (t : ByteArray) (lo : Option Addr) (zs : List Int) (c : Nat) (w : World) (h : LS w0 none B w wb sv tv T kv mv sds K M q) (hx : sds[i]? = some x) (hr : RowG w lo zs c) (hnil : lo = none → c = 0) (hlow : ∀ k off, lo = some ⟨k, off, none⟩ → 0 < zs.length → k < B) (hb : ∀ i, i < zs.length → In64 (tm zs i)) (hz : zs.length ≤ 1500000) (hq : q ≤ 2000000) :
  Calls Tryz.prog 16 #[.pointer (some ⟨wb, 0, none⟩), .pointer (some ⟨x.db, 0, none⟩), .agg #[.int .i64 8, .int .i64 at', .int .i64 a, .int .i64 b, .string t, .slice lo zs.length c]] w fun e w' => e = .returned (.bool true) ∧ LP w0 (some i) B w' wb sv (sds.map SdR.db) (q + 1) := by
 obtain ⟨db, hdb⟩ : ∃ db, x.db = db := ⟨_, rfl⟩
 obtain ⟨n, hn⟩ : ∃ n, zs.length = n := ⟨_, rfl⟩
 obtain ⟨D, hD⟩ : ∃ D, sds.map SdR.db = D := ⟨_, rfl⟩
 obtain ⟨W1, hW1⟩ : ∃ W1, w.alloc (.cells #[.int .i64 8, .int .i64 at', .int .i64 a, .int .i64 b, .string t, .slice lo n c] 41) = W1 := ⟨_, rfl⟩
 obtain ⟨ob, hob⟩ : ∃ ob, w.heap.size = ob := ⟨_, rfl⟩
 have o1 : W1.heap[ob]? = some (.cells #[.int .i64 8, .int .i64 at', .int .i64 a, .int .i64 b, .string t, .slice lo n c] 41 (0, 0)) := by rw [← hW1, ← hob]; exact heap_alloc_new w _
 have f1 : Fr [] w W1 := by rw [← hW1]; exact (Fr.refl _ _).alloc _
 have h1 : LS w0 none B W1 wb sv tv T kv mv sds K M q := h.same f1
 have k0 : W1.cell? ⟨ob, 0, none⟩ = some (.int .i64 8) := by rw [cell_of o1]; rfl
 have k5 : W1.cell? ⟨ob, 5, none⟩ = some (.slice lo n c) := by rw [cell_of o1]; rfl
 have HP : Hid (∀ W, Fr [] W1 W → Calls Tryz.prog 41 #[.pointer (some ⟨db, 0, none⟩), .slice lo n c] W fun e w' => e = .returned (.bool true) ∧ LP w0 (some i) B w' wb sv D (q + 1)) := fun W hW => by
  have hW2 := h1.same hW
  rw [← hdb, ← hD, ← hn]
  refine (destroys_any x.lnv B x.db x.b x.rb x.s x.r q lo zs c W (hW2.sd i x hx).1 (hW2.sd i x hx).2 ((hr.fr f1 (by simp)).fr hW (by simp)) hnil hlow hb hz hq).mono ?_
  rintro e w' ⟨rfl, sn⟩
  exact ⟨rfl, hW2.side hx sn⟩
 rw [hdb, hD, hn]
 clear h h1 hx o1 f1 hr hnil hlow hb hz hdb hD hn
 go_enter Tryz.func16, Tryz.ntmps16
 go_wp2_with (first
  | (go_at_call 41; refine (HP.out _ Fr.dd).mono ?_; rintro e w5 ⟨rfl, l5⟩; have H5 : Hid (LP w0 (some i) B w5 wb sv D (q + 1)) := l5; clear l5))
 go_ret
 exact ⟨rfl, H5.out⟩
theorem row1_blk {w : World} {g : Nat} {l : List Int} (h : w.heap[g]? = some (.cells (i1C l).toArray 3 (0, 0))) : RowG w (some ⟨g, 0, none⟩) l l.length := by
 refine ⟨Nat.le_refl _, fun _ => ⟨g, 0, rfl, fun i hi => ?_⟩⟩
 rw [Nat.zero_add, cell_of h, List.getElem?_toArray]
 simp [i1C, tm, hi]
theorem row1_own {w : World} {base : Nat} {ao : Option Addr} {n cap : Nat} {l : List Int} (hn : l.length = n) (h : w.ownsRow base 3 1 (.slice ao n cap) n (i1C l)) : RowG w ao l cap := by
 subst hn
 rcases h.2 with ⟨h1, h2⟩ | ⟨g, c, cur, h1, hb, hg, hc, hm, hs, ht⟩
 · exact ⟨by omega, fun h0 => by omega⟩
 · simp only [Value.slice.injEq] at h1
   obtain ⟨rfl, _, rfl⟩ := h1
   refine ⟨hc, fun _ => ⟨g, 0, rfl, fun i hi => ?_⟩⟩
   have e : (i1C l)[i]? = some (.int .i64 (tm l i)) := by simp [i1C, tm, hi]
   rw [Nat.zero_add, cell_of hg, ← e, ← ht, List.getElem?_take_of_lt (by omega), Array.getElem?_toList]
set_option maxRecDepth 100000 in
set_option maxHeartbeats 1600000 in
theorem store_snaps (w0 : World) (B wb : Nat) (sv tv : Value) (T : List ByteArray) (kv mv : Value) (sds : List SdR) (K M : List (Nat × Nat × Nat)) (q : Nat) (i : Nat) (x : SdR) (at' a b : Int) (t : ByteArray) (lo : Option Addr) (nn c : Nat) (w : World) (h : LS w0 none B w wb sv tv T kv mv sds K M q) (hx : sds[i]? = some x) (hq : q ≤ 2000000) :
  Calls Tryz.prog 16 #[.pointer (some ⟨wb, 0, none⟩), .pointer (some ⟨x.db, 0, none⟩), .agg #[.int .i64 4, .int .i64 at', .int .i64 a, .int .i64 b, .string t, .slice lo nn c]] w fun e w' => e = .returned (.bool true) ∧ LP w0 (some i) B w' wb sv (sds.map SdR.db) (q + 1) := by
 obtain ⟨db, hdb⟩ : ∃ db, x.db = db := ⟨_, rfl⟩
 obtain ⟨xb, hxb⟩ : ∃ xb, x.b = xb := ⟨_, rfl⟩
 obtain ⟨rb, hrb⟩ : ∃ rb, x.rb = rb := ⟨_, rfl⟩
 obtain ⟨n, hn⟩ : ∃ n, x.s.ss.length = n := ⟨_, rfl⟩
 obtain ⟨D, hD⟩ : ∃ D, sds.map SdR.db = D := ⟨_, rfl⟩
 obtain ⟨W1, hW1⟩ : ∃ W1, w.alloc (.cells #[.int .i64 4, .int .i64 at', .int .i64 a, .int .i64 b, .string t, .slice lo nn c] 41) = W1 := ⟨_, rfl⟩
 obtain ⟨ob, hob⟩ : ∃ ob, w.heap.size = ob := ⟨_, rfl⟩
 have o1 : W1.heap[ob]? = some (.cells #[.int .i64 4, .int .i64 at', .int .i64 a, .int .i64 b, .string t, .slice lo nn c] 41 (0, 0)) := by rw [← hW1, ← hob]; exact heap_alloc_new w _
 have h1 : LS w0 none B W1 wb sv tv T kv mv sds K M q := h.same (by rw [← hW1]; exact (Fr.refl _ _).alloc _)
 have k0 : W1.cell? ⟨ob, 0, none⟩ = some (.int .i64 4) := by rw [cell_of o1]; rfl
 have HC : Hid (∀ W, LS w0 none B W wb sv tv T kv mv sds K M q → W.cell? ⟨db, 0, none⟩ = some (.pointer (some ⟨xb, 0, none⟩)) ∧ W.cell? ⟨db, 1, none⟩ = some (.pointer (some ⟨rb, 0, none⟩))) := fun W hW => by
  have h8 : W.heap[x.db]? = some (sdO x.b x.rb x.lnv) := (hW.sd i x hx).1.blk
  rw [hdb, hxb, hrb] at h8
  refine ⟨?_, ?_⟩ <;> rw [cell_of h8] <;> rfl
 have m := (h.sd i x hx).2
 have hl12 := m.len
 have HA : Hid (∀ W, LS w0 none B W wb sv tv T kv mv sds K M q → Calls Tryz.prog 31 #[.pointer (some ⟨xb, 0, none⟩)] W fun e w4 => ∃ gg, e = .returned (.slice (some ⟨gg, 0, none⟩) n n) ∧ LS w0 none B w4 wb sv tv T kv mv sds K M q ∧ w4.heap[gg]? = some (.cells (tlC (x.s.ss.map t3)).toArray 61 (0, 0)) ∧ W.heap.size ≤ gg) := fun W hW => by
  rw [← hxb, ← hn]
  refine (snaps_any B x.b x.s W (hW.sd i x hx).1.rep (by omega)).mono ?_
  rintro e w4 ⟨gg, rfl, hgg, hc, rp, f⟩
  exact ⟨gg, rfl, hW.still hx rp f, hc, hgg⟩
 have HR : Hid (∀ W, LS w0 none B W wb sv tv T kv mv sds K M q → Calls Tryz.prog 33 #[.pointer (some ⟨rb, 0, none⟩)] W fun e w5 => ∃ v, e = .returned v ∧ w5.ownsRow W.heap.size 61 3 v n (tlC (x.s.ss.map t3)) ∧ Fr [] W w5) := fun W hW => by
  have h8 := rsnaps_any B x.rb x.r W (hW.sd i x hx).1.rrep (by have := m.glen; omega)
  rw [← m.ss, m.glen, hrb, hn] at h8
  exact h8
 have HE : Hid (∀ W (a1 a2 : Option Addr) (p1 p2 : Nat), Row3 W a1 (x.s.ss.map t3) p1 → Row3 W a2 (x.s.ss.map t3) p2 → Calls Tryz.prog 32 #[.slice a1 n p1, .slice a2 n p2] W fun e w' => e = .returned (.bool true) ∧ ∃ q, w' = W.drewN q) := fun W a1 a2 p1 p2 r1 r2 => by
  have h8 := sameSnaps_any a1 a2 (x.s.ss.map t3) p1 p2 W r1 r2 (by rw [List.length_map]; omega)
  rw [List.length_map, hn] at h8
  exact h8
 have HN : Hid ((x.s.ss.map t3).length = n ∧ (tlC (x.s.ss.map t3)).length = n * 3) := ⟨by rw [List.length_map, hn], by rw [tlC_len, List.length_map, hn]⟩
 have HK : Hid (∀ W gg, LS w0 none B W wb sv tv T kv mv sds K M q → W.heap[gg]? = some (.cells (tlC (x.s.ss.map t3)).toArray 61 (0, 0)) → (∀ y ∈ K, y.1 ≠ gg) → B ≤ gg → Calls Tryz.prog 34 #[.pointer (some ⟨wb, 0, none⟩), .slice (some ⟨gg, 0, none⟩) n n] W fun e w' => e = .returned (.tuple #[]) ∧ LP w0 (some i) B w' wb sv D (q + 1)) := fun W gg hW hg hk hB => by
  have k4 := hW.k4
  have kl := hW.kl
  refine (keepSnaps_any B wb sv tv T mv kv (sds.map SdR.db) M K gg n W hW.wm _ hg (by simpa using HN.out.2) (by omega) hk k4.1 (by omega) hB).mono ?_
  rintro e w' ⟨rfl, p⟩
  rw [← hD]
  exact ⟨rfl, hW.dirty.keepK hg hB p⟩
 have H1 : Hid (LS w0 none B W1 wb sv tv T kv mv sds K M q) := h1
 obtain ⟨c0, _⟩ := HC.out W1 h1
 have H5r : Hid (∀ w4 w5 (gg : Nat), LS w0 none B w4 wb sv tv T kv mv sds K M q → w4.heap[gg]? = some (.cells (tlC (x.s.ss.map t3)).toArray 61 (0, 0)) → Fr [] w4 w5 → LS w0 none B w5 wb sv tv T kv mv sds K M q ∧ w5.heap[gg]? = some (.cells (tlC (x.s.ss.map t3)).toArray 61 (0, 0)) ∧ Row3 w5 (some ⟨gg, 0, none⟩) (x.s.ss.map t3) n) := fun w4 w5 gg l4 g4 f5 => by
  have g5 : w5.heap[gg]? = some (.cells (tlC (x.s.ss.map t3)).toArray 61 (0, 0)) := by rw [f5.block gg (Array.getElem?_eq_some_iff.1 g4).1 (by simp)]; exact g4
  refine ⟨l4.same f5, g5, ?_⟩
  have h8 := row3_blk g5
  rw [HN.out.1] at h8
  exact h8
 rw [hdb, hD]
 clear h h1 hx o1 hdb hxb hrb hD m hl12 hn
 go_enter Tryz.func16, Tryz.ntmps16
 go_wp2_with (first
  | (go_at_call 31; refine (HA.out _ (by first | exact H1.out | exact H1.out.same ((Fr.refl _ _).drew) | exact H1.out.same ((Fr.refl _ _).drewN _))).mono ?_; rintro e w4 ⟨gg, rfl, l4, g4, hgg⟩; have H4 : Hid (LS w0 none B w4 wb sv tv T kv mv sds K M q ∧ w4.heap[gg]? = some (.cells (tlC (x.s.ss.map t3)).toArray 61 (0, 0)) ∧ ((∀ y ∈ K, y.1 ≠ gg) ∧ (∀ y ∈ M, y.1 ≠ gg)) ∧ B ≤ gg) := ⟨l4, g4, H1.out.kfar hgg, Nat.le_trans H1.out.hB hgg⟩; obtain ⟨_, c4⟩ := HC.out w4 l4; clear l4 g4 hgg)
  | (go_at_call 33; refine (HR.out _ (by first | exact H4.out.1 | exact H4.out.1.same ((Fr.refl _ _).drew) | exact H4.out.1.same ((Fr.refl _ _).drewN _))).mono ?_; rintro e w5 ⟨v5, rfl, ow5, f5⟩; obtain ⟨va5, vc5, hv5⟩ := own_shape ow5; subst hv5; have H5 : Hid (LS w0 none B w5 wb sv tv T kv mv sds K M q ∧ w5.heap[gg]? = some (.cells (tlC (x.s.ss.map t3)).toArray 61 (0, 0)) ∧ Row3 w5 (some ⟨gg, 0, none⟩) (x.s.ss.map t3) n) := H5r.out w4 w5 gg H4.out.1 H4.out.2.1 (by first | exact f5 | exact ((Fr.refl _ _).drew).trans f5 (by simp) | exact ((Fr.refl _ _).drewN _).trans f5 (by simp)); have HO5 : Hid (Row3 w5 va5 (x.s.ss.map t3) vc5) := row3_own HN.out.1 ow5; clear ow5 f5)
  | (go_at_call 32; refine (HE.out w5 (some ⟨gg, 0, none⟩) va5 n vc5 H5.out.2.2 HO5.out).mono ?_; rintro e w6 ⟨rfl, q6, hq6⟩; have H6 : Hid (LS w0 none B w6 wb sv tv T kv mv sds K M q ∧ w6.heap[gg]? = some (.cells (tlC (x.s.ss.map t3)).toArray 61 (0, 0))) := (by rw [hq6]; exact ⟨H5.out.1.same ((Fr.refl _ _).drewN _), H5.out.2.1⟩); clear hq6)
  | (go_at_call 34; refine (HK.out _ gg (by first | exact H6.out.1 | exact H6.out.1.same ((Fr.refl _ _).drew) | exact H6.out.1.same ((Fr.refl _ _).drewN _)) H6.out.2 H4.out.2.2.1.1 H4.out.2.2.2).mono ?_; rintro e w7 ⟨rfl, l7⟩; have H7 : Hid (LP w0 (some i) B w7 wb sv D (q + 1)) := l7; clear l7))
 go_ret
 exact ⟨rfl, H7.out⟩
set_option maxRecDepth 100000 in
set_option maxHeartbeats 1600000 in
theorem store_marks (w0 : World) (B wb : Nat) (sv tv : Value) (T : List ByteArray) (kv mv : Value) (sds : List SdR) (K M : List (Nat × Nat × Nat)) (q : Nat) (i : Nat) (x : SdR) (at' a b : Int) (t : ByteArray) (lo : Option Addr) (nn c : Nat) (w : World) (h : LS w0 none B w wb sv tv T kv mv sds K M q) (hx : sds[i]? = some x) (hq : q ≤ 2000000) :
  Calls Tryz.prog 16 #[.pointer (some ⟨wb, 0, none⟩), .pointer (some ⟨x.db, 0, none⟩), .agg #[.int .i64 11, .int .i64 at', .int .i64 a, .int .i64 b, .string t, .slice lo nn c]] w fun e w' => e = .returned (.bool true) ∧ LP w0 (some i) B w' wb sv (sds.map SdR.db) (q + 1) := by
 obtain ⟨db, hdb⟩ : ∃ db, x.db = db := ⟨_, rfl⟩
 obtain ⟨xb, hxb⟩ : ∃ xb, x.b = xb := ⟨_, rfl⟩
 obtain ⟨rb, hrb⟩ : ∃ rb, x.rb = rb := ⟨_, rfl⟩
 obtain ⟨n, hn⟩ : ∃ n, x.s.ms.length = n := ⟨_, rfl⟩
 obtain ⟨D, hD⟩ : ∃ D, sds.map SdR.db = D := ⟨_, rfl⟩
 obtain ⟨W1, hW1⟩ : ∃ W1, w.alloc (.cells #[.int .i64 11, .int .i64 at', .int .i64 a, .int .i64 b, .string t, .slice lo nn c] 41) = W1 := ⟨_, rfl⟩
 obtain ⟨ob, hob⟩ : ∃ ob, w.heap.size = ob := ⟨_, rfl⟩
 have o1 : W1.heap[ob]? = some (.cells #[.int .i64 11, .int .i64 at', .int .i64 a, .int .i64 b, .string t, .slice lo nn c] 41 (0, 0)) := by rw [← hW1, ← hob]; exact heap_alloc_new w _
 have h1 : LS w0 none B W1 wb sv tv T kv mv sds K M q := h.same (by rw [← hW1]; exact (Fr.refl _ _).alloc _)
 have k0 : W1.cell? ⟨ob, 0, none⟩ = some (.int .i64 11) := by rw [cell_of o1]; rfl
 have HC : Hid (∀ W, LS w0 none B W wb sv tv T kv mv sds K M q → W.cell? ⟨db, 0, none⟩ = some (.pointer (some ⟨xb, 0, none⟩)) ∧ W.cell? ⟨db, 1, none⟩ = some (.pointer (some ⟨rb, 0, none⟩))) := fun W hW => by
  have h8 : W.heap[x.db]? = some (sdO x.b x.rb x.lnv) := (hW.sd i x hx).1.blk
  rw [hdb, hxb, hrb] at h8
  refine ⟨?_, ?_⟩ <;> rw [cell_of h8] <;> rfl
 have m := (h.sd i x hx).2
 have hl12 := m.len
 have HA : Hid (∀ W, LS w0 none B W wb sv tv T kv mv sds K M q → Calls Tryz.prog 46 #[.pointer (some ⟨xb, 0, none⟩)] W fun e w4 => ∃ gg, e = .returned (.slice (some ⟨gg, 0, none⟩) n n) ∧ LS w0 none B w4 wb sv tv T kv mv sds K M q ∧ w4.heap[gg]? = some (.cells (i1C (x.s.ms.map Prod.fst)).toArray 3 (0, 0)) ∧ W.heap.size ≤ gg) := fun W hW => by
  rw [← hxb, ← hn]
  refine (marks_any B x.b x.s W (hW.sd i x hx).1.rep (by omega)).mono ?_
  rintro e w4 ⟨gg, rfl, hgg, hc, rp, f⟩
  exact ⟨gg, rfl, hW.still hx rp f, hc, hgg⟩
 have HR : Hid (∀ W, LS w0 none B W wb sv tv T kv mv sds K M q → Calls Tryz.prog 48 #[.pointer (some ⟨rb, 0, none⟩)] W fun e w5 => ∃ v, e = .returned v ∧ w5.ownsRow W.heap.size 3 1 v n (i1C (x.s.ms.map Prod.fst)) ∧ Fr [] W w5) := fun W hW => by
  have h8 := rmarks_any B x.rb x.r W (hW.sd i x hx).1.rrep (by have := m.mlen; omega)
  rw [← m.ms, m.mlen, hrb, hn] at h8
  exact h8
 have HE : Hid (∀ W (a1 a2 : Option Addr) (p1 p2 : Nat), RowG W a1 (x.s.ms.map Prod.fst) p1 → RowG W a2 (x.s.ms.map Prod.fst) p2 → Calls Tryz.prog 47 #[.slice a1 n p1, .slice a2 n p2] W fun e w' => e = .returned (.bool true) ∧ ∃ q, w' = W.drewN q) := fun W a1 a2 p1 p2 r1 r2 => by
  have h8 := sameInts_any a1 a2 (x.s.ms.map Prod.fst) p1 p2 W r1 r2 (by rw [List.length_map]; omega)
  rw [List.length_map, hn] at h8
  exact h8
 have HN : Hid ((x.s.ms.map Prod.fst).length = n ∧ (i1C (x.s.ms.map Prod.fst)).length = n) := ⟨by rw [List.length_map, hn], by rw [i1C_len, List.length_map, hn]⟩
 have HK : Hid (∀ W gg, LS w0 none B W wb sv tv T kv mv sds K M q → W.heap[gg]? = some (.cells (i1C (x.s.ms.map Prod.fst)).toArray 3 (0, 0)) → (∀ y ∈ M, y.1 ≠ gg) → B ≤ gg → Calls Tryz.prog 49 #[.pointer (some ⟨wb, 0, none⟩), .slice (some ⟨gg, 0, none⟩) n n] W fun e w' => e = .returned (.tuple #[]) ∧ LP w0 (some i) B w' wb sv D (q + 1)) := fun W gg hW hg hk hB => by
  have k4 := hW.k4
  have kl := hW.kl
  refine (keepMarks_any B wb sv tv T kv mv (sds.map SdR.db) K M gg n W hW.wm _ hg (by simpa using HN.out.2) (by omega) hk k4.2 (by omega) hB).mono ?_
  rintro e w' ⟨rfl, p⟩
  rw [← hD]
  exact ⟨rfl, hW.dirty.keepM hg hB p⟩
 have H1 : Hid (LS w0 none B W1 wb sv tv T kv mv sds K M q) := h1
 obtain ⟨c0, _⟩ := HC.out W1 h1
 have H5r : Hid (∀ w4 w5 (gg : Nat), LS w0 none B w4 wb sv tv T kv mv sds K M q → w4.heap[gg]? = some (.cells (i1C (x.s.ms.map Prod.fst)).toArray 3 (0, 0)) → Fr [] w4 w5 → LS w0 none B w5 wb sv tv T kv mv sds K M q ∧ w5.heap[gg]? = some (.cells (i1C (x.s.ms.map Prod.fst)).toArray 3 (0, 0)) ∧ RowG w5 (some ⟨gg, 0, none⟩) (x.s.ms.map Prod.fst) n) := fun w4 w5 gg l4 g4 f5 => by
  have g5 : w5.heap[gg]? = some (.cells (i1C (x.s.ms.map Prod.fst)).toArray 3 (0, 0)) := by rw [f5.block gg (Array.getElem?_eq_some_iff.1 g4).1 (by simp)]; exact g4
  refine ⟨l4.same f5, g5, ?_⟩
  have h8 := row1_blk g5
  rw [HN.out.1] at h8
  exact h8
 rw [hdb, hD]
 clear h h1 hx o1 hdb hxb hrb hD m hl12 hn
 go_enter Tryz.func16, Tryz.ntmps16
 go_wp2_with (first
  | (go_at_call 46; refine (HA.out _ (by first | exact H1.out | exact H1.out.same ((Fr.refl _ _).drew) | exact H1.out.same ((Fr.refl _ _).drewN _))).mono ?_; rintro e w4 ⟨gg, rfl, l4, g4, hgg⟩; have H4 : Hid (LS w0 none B w4 wb sv tv T kv mv sds K M q ∧ w4.heap[gg]? = some (.cells (i1C (x.s.ms.map Prod.fst)).toArray 3 (0, 0)) ∧ ((∀ y ∈ K, y.1 ≠ gg) ∧ (∀ y ∈ M, y.1 ≠ gg)) ∧ B ≤ gg) := ⟨l4, g4, H1.out.kfar hgg, Nat.le_trans H1.out.hB hgg⟩; obtain ⟨_, c4⟩ := HC.out w4 l4; clear l4 g4 hgg)
  | (go_at_call 48; refine (HR.out _ (by first | exact H4.out.1 | exact H4.out.1.same ((Fr.refl _ _).drew) | exact H4.out.1.same ((Fr.refl _ _).drewN _))).mono ?_; rintro e w5 ⟨v5, rfl, ow5, f5⟩; obtain ⟨va5, vc5, hv5⟩ := own_shape ow5; subst hv5; have H5 : Hid (LS w0 none B w5 wb sv tv T kv mv sds K M q ∧ w5.heap[gg]? = some (.cells (i1C (x.s.ms.map Prod.fst)).toArray 3 (0, 0)) ∧ RowG w5 (some ⟨gg, 0, none⟩) (x.s.ms.map Prod.fst) n) := H5r.out w4 w5 gg H4.out.1 H4.out.2.1 (by first | exact f5 | exact ((Fr.refl _ _).drew).trans f5 (by simp) | exact ((Fr.refl _ _).drewN _).trans f5 (by simp)); have HO5 : Hid (RowG w5 va5 (x.s.ms.map Prod.fst) vc5) := row1_own HN.out.1 ow5; clear ow5 f5)
  | (go_at_call 47; refine (HE.out w5 (some ⟨gg, 0, none⟩) va5 n vc5 H5.out.2.2 HO5.out).mono ?_; rintro e w6 ⟨rfl, q6, hq6⟩; have H6 : Hid (LS w0 none B w6 wb sv tv T kv mv sds K M q ∧ w6.heap[gg]? = some (.cells (i1C (x.s.ms.map Prod.fst)).toArray 3 (0, 0))) := (by rw [hq6]; exact ⟨H5.out.1.same ((Fr.refl _ _).drewN _), H5.out.2.1⟩); clear hq6)
  | (go_at_call 49; refine (HK.out _ gg (by first | exact H6.out.1 | exact H6.out.1.same ((Fr.refl _ _).drew) | exact H6.out.1.same ((Fr.refl _ _).drewN _)) H6.out.2 H4.out.2.2.1.2 H4.out.2.2.2).mono ?_; rintro e w7 ⟨rfl, l7⟩; have H7 : Hid (LP w0 (some i) B w7 wb sv D (q + 1)) := l7; clear l7))
 go_ret
 exact ⟨rfl, H7.out⟩
theorem rblocks (B b : Nat) (r : RSto) (w : World) (h : RRep B w b r) : Calls Tryz.prog 83 #[.pointer (some ⟨b, 0, none⟩)] w fun e w' => e = .returned (.int .i64 r.blocks) ∧ w' = w := by
 have c1 := h.cells.2.1
 clear h
 go_enter Tryz.func83, Tryz.ntmps83
 go_wp2
 go_ret
 exact ⟨rfl, rfl⟩
def TS (O : Obj) (B db b rb : Nat) (s : Sto) (r : RSto) (w W : World) : Prop := SD O B W db b rb s r ∧ Fr (sft b rb s r) w W
section
variable {O : Obj} {B db b rb : Nat} {s : Sto} {r : RSto} {q : Nat} {w W W' : World}
theorem TS.same (h : TS O B db b rb s r w W) (hf : Fr [] W W') : TS O B db b rb s r w W' := ⟨h.1.same hf, h.2.trans hf (by simp)⟩
theorem TS.on (h : TS O B db b rb s r w W) (sd : SD O B W' db b rb s r) (hf : Fr (sft b rb s r) W W') : TS O B db b rb s r w W' := ⟨sd, h.2.trans hf (fun _ hk => Or.inl hk)⟩
theorem own_ts (h0 : ∀ k ∈ sft b rb s r, k < w.heap.size) {e : TypeId} {sz n : Nat} {v : Value} {xs : List Value} (ho : W.ownsRow w.heap.size e sz v n xs) (hf : Fr (sft b rb s r) W W') : W'.ownsRow w.heap.size e sz v n xs :=
 own_of_block ho (fun j hj => by
  obtain ⟨h1, cur, h2⟩ := own_tag ho hj
  exact hf.block j (Array.getElem?_eq_some_iff.1 h2).1 (fun hm => by have := h0 j hm; omega))
theorem SD.keptP (h : SD O B W db b rb s r) (rp : Rep B W' b 0 s) (f1 : Fr (foot b s) W W') : SD O B W' db b rb s r ∧ Fr (sft b rb s r) W W' :=
 ⟨⟨by rw [f1.block db (Array.getElem?_eq_some_iff.1 h.blk).1 (fun hm => h.ndb (List.mem_append_left _ hm))]; exact h.blk, rp, h.rrep.kept f1 (fun k hk hm => h.dis k hm hk), h.dis, h.hdb, h.ndb⟩, f1.mono (fun k hk => List.mem_append_left _ hk)⟩
theorem ts_snaps (h : TS O B db b rb s r w W) (m : Sim s r q) : Calls Tryz.prog 31 #[.pointer (some ⟨b, 0, none⟩)] W fun e w' => ∃ gg, e = .returned (.slice (some ⟨gg, 0, none⟩) s.ss.length s.ss.length) ∧ TS O B db b rb s r w w' ∧ w'.heap[gg]? = some (.cells (tlC (s.ss.map t3)).toArray 61 (0, 0)) := by
 refine (snaps_any B b s W h.1.rep m.len.1).mono ?_
 rintro e w' ⟨gg, rfl, _, hc, rp, f⟩
 have hS := h.1.keptP rp f
 exact ⟨gg, rfl, h.on hS.1 hS.2, hc⟩
theorem ts_rsnaps (h : TS O B db b rb s r w W) (m : Sim s r q) : Calls Tryz.prog 33 #[.pointer (some ⟨rb, 0, none⟩)] W fun e w' => ∃ v, e = .returned v ∧ w'.ownsRow w.heap.size 61 3 v s.ss.length (tlC (s.ss.map t3)) ∧ TS O B db b rb s r w w' ∧ Fr [] W w' := by
 have h8 := rsnaps_any B rb r W h.1.rrep (by have := m.glen; have := m.len; omega)
 rw [← m.ss, m.glen] at h8
 refine h8.mono ?_
 rintro e w' ⟨v, rfl, ho, f⟩
 exact ⟨v, rfl, own_baseL ho h.2.size, h.same f, f⟩
theorem ts_marks (h : TS O B db b rb s r w W) (m : Sim s r q) : Calls Tryz.prog 46 #[.pointer (some ⟨b, 0, none⟩)] W fun e w' => ∃ gg, e = .returned (.slice (some ⟨gg, 0, none⟩) s.ms.length s.ms.length) ∧ TS O B db b rb s r w w' ∧ w'.heap[gg]? = some (.cells (i1C (s.ms.map Prod.fst)).toArray 3 (0, 0)) ∧ Fr (sft b rb s r) W w' := by
 refine (marks_any B b s W h.1.rep m.len.2).mono ?_
 rintro e w' ⟨gg, rfl, _, hc, rp, f⟩
 have hS := h.1.keptP rp f
 exact ⟨gg, rfl, h.on hS.1 hS.2, hc, hS.2⟩
theorem ts_rmarks (h : TS O B db b rb s r w W) (m : Sim s r q) : Calls Tryz.prog 48 #[.pointer (some ⟨rb, 0, none⟩)] W fun e w' => ∃ v, e = .returned v ∧ w'.ownsRow w.heap.size 3 1 v s.ms.length (i1C (s.ms.map Prod.fst)) ∧ TS O B db b rb s r w w' ∧ Fr [] W w' := by
 have h8 := rmarks_any B rb r W h.1.rrep (by have := m.mlen; have := m.len; omega)
 rw [← m.ms, m.mlen] at h8
 refine h8.mono ?_
 rintro e w' ⟨v, rfl, ho, f⟩
 exact ⟨v, rfl, own_baseL ho h.2.size, h.same f, f⟩
theorem ts_read (h : TS O B db b rb s r w W) (m : Sim s r q) (k : Int) : Calls Tryz.prog 27 #[.pointer (some ⟨b, 0, none⟩), .int .i64 k] W fun e w1 => ∃ (u : ByteArray) (z : Int), e = .returned (.tuple #[.string u, .int .i64 z]) ∧ ∀ W2, Fr [] w1 W2 → Calls Tryz.prog 28 #[.pointer (some ⟨rb, 0, none⟩), .int .i64 k] W2 fun e2 w2 => e2 = .returned (.tuple #[.string u, .int .i64 z]) ∧ TS O B db b rb s r w w2 ∧ Fr (sft b rb s r) W w2 := by
 refine (s_read h.1 m k).mono ?_
 rintro e w1 ⟨⟨u, z⟩, rfl, _, hr⟩
 refine ⟨u, z, rfl, fun W2 hW2 => (hr W2 hW2).mono ?_⟩
 rintro e2 w2 ⟨h2, sd2, f2⟩
 exact ⟨h2, h.on sd2 f2, f2⟩
theorem ts_send (h : TS O B db b rb s r w W) (m : Sim s r q) (f t : Int) : Calls Tryz.prog 50 #[.pointer (some ⟨b, 0, none⟩), .int .i64 f, .int .i64 t] W fun e w1 => ∃ (u : ByteArray) (z : Int), e = .returned (.tuple #[.string u, .int .i64 z]) ∧ Fr (sft b rb s r) W w1 ∧ ∀ W2, Fr [] w1 W2 → Calls Tryz.prog 51 #[.pointer (some ⟨rb, 0, none⟩), .int .i64 f, .int .i64 t] W2 fun e2 w2 => e2 = .returned (.tuple #[.string u, .int .i64 z]) ∧ TS O B db b rb s r w w2 ∧ Fr (sft b rb s r) W w2 := by
 refine (s_send h.1 m f t).mono ?_
 rintro e w1 ⟨⟨⟨u, z⟩, _⟩, rfl, ⟨_, f1⟩, hr⟩
 refine ⟨u, z, rfl, f1, fun W2 hW2 => (hr W2 hW2).mono ?_⟩
 rintro e2 w2 ⟨h2, sd2, f2⟩
 exact ⟨h2, h.on sd2 f2, f2⟩
end
set_option maxRecDepth 100000 in
set_option maxHeartbeats 3200000 in
theorem tells_any (O : Obj) (B db b rb : Nat) (s : Sto) (r : RSto) (q : Nat) (w : World) (h : SD O B w db b rb s r) (m : Sim s r q) :
  Calls Tryz.prog 54 #[.pointer (some ⟨b, 0, none⟩), .pointer (some ⟨rb, 0, none⟩)] w fun e w' => e = .returned (.bool true) ∧ TS O B db b rb s r w w' := by
 obtain ⟨i0, hi, hz0, hz1, hz2⟩ := info_parts info3
 obtain ⟨P, hP⟩ : ∃ P, TS O B db b rb s r w = P := ⟨_, rfl⟩
 obtain ⟨F, hF⟩ : ∃ F, sft b rb s r = F := ⟨_, rfl⟩
 obtain ⟨n, hn⟩ : ∃ n, s.ss.length = n := ⟨_, rfl⟩
 obtain ⟨k, hk⟩ : ∃ k, s.ms.length = k := ⟨_, rfl⟩
 obtain ⟨L, hL⟩ : ∃ L, s.ss.map t3 = L := ⟨_, rfl⟩
 obtain ⟨M, hM⟩ : ∃ M, s.ms.map Prod.fst = M := ⟨_, rfl⟩
 obtain ⟨nb, hnb⟩ : ∃ nb, r.blocks = nb := ⟨_, rfl⟩
 have hlL : L.length = n := by rw [← hL, List.length_map, hn]
 have hlM : M.length = k := by rw [← hM, List.length_map, hk]
 have hn12 : n ≤ 12 := by rw [← hn]; exact m.len.1
 have hk12 : k ≤ 12 := by rw [← hk]; exact m.len.2
 have hnb16 : nb ≤ 16 := by have := m.bl; omega
 have HP0 : Hid (P w) := by rw [← hP]; exact ⟨h, Fr.refl _ _⟩
 have HSm : Hid (∀ W W', P W → Fr [] W W' → P W') := by rw [← hP]; exact fun W W' h f => TS.same h f
 have HOw : Hid (∀ {W W' : World} {e : TypeId} {sz n : Nat} {v : Value} {xs : List Value}, W.ownsRow w.heap.size e sz v n xs → Fr F W W' → W'.ownsRow w.heap.size e sz v n xs) := by rw [← hF]; exact fun ho hf => own_ts (fun k hk => (h.lt k hk).2) ho hf
 have H31 : Hid (∀ W, P W → Calls Tryz.prog 31 #[.pointer (some ⟨b, 0, none⟩)] W fun e w' => ∃ gg, e = .returned (.slice (some ⟨gg, 0, none⟩) n n) ∧ P w' ∧ w'.heap[gg]? = some (.cells (tlC L).toArray 61 (0, 0))) := by rw [← hP, ← hn, ← hL]; exact fun W hW => ts_snaps hW m
 have H33 : Hid (∀ W, P W → Calls Tryz.prog 33 #[.pointer (some ⟨rb, 0, none⟩)] W fun e w' => ∃ v, e = .returned v ∧ w'.ownsRow w.heap.size 61 3 v n (tlC L) ∧ P w' ∧ Fr [] W w') := by rw [← hP, ← hn, ← hL]; exact fun W hW => ts_rsnaps hW m
 have H46 : Hid (∀ W, P W → Calls Tryz.prog 46 #[.pointer (some ⟨b, 0, none⟩)] W fun e w' => ∃ gg, e = .returned (.slice (some ⟨gg, 0, none⟩) k k) ∧ P w' ∧ w'.heap[gg]? = some (.cells (i1C M).toArray 3 (0, 0)) ∧ Fr F W w') := by rw [← hP, ← hk, ← hM, ← hF]; exact fun W hW => ts_marks hW m
 have H48 : Hid (∀ W, P W → Calls Tryz.prog 48 #[.pointer (some ⟨rb, 0, none⟩)] W fun e w' => ∃ v, e = .returned v ∧ w'.ownsRow w.heap.size 3 1 v k (i1C M) ∧ P w' ∧ Fr [] W w') := by rw [← hP, ← hk, ← hM]; exact fun W hW => ts_rmarks hW m
 have H27 : Hid (∀ W (j : Int), P W → Calls Tryz.prog 27 #[.pointer (some ⟨b, 0, none⟩), .int .i64 j] W fun e w1 => ∃ (u : ByteArray) (z : Int), e = .returned (.tuple #[.string u, .int .i64 z]) ∧ ∀ W2, Fr [] w1 W2 → Calls Tryz.prog 28 #[.pointer (some ⟨rb, 0, none⟩), .int .i64 j] W2 fun e2 w2 => e2 = .returned (.tuple #[.string u, .int .i64 z]) ∧ P w2 ∧ Fr F W w2) := by rw [← hP, ← hF]; exact fun W j hW => ts_read hW m j
 have H50 : Hid (∀ W (f t : Int), P W → Calls Tryz.prog 50 #[.pointer (some ⟨b, 0, none⟩), .int .i64 f, .int .i64 t] W fun e w1 => ∃ (u : ByteArray) (z : Int), e = .returned (.tuple #[.string u, .int .i64 z]) ∧ Fr F W w1 ∧ ∀ W2, Fr [] w1 W2 → Calls Tryz.prog 51 #[.pointer (some ⟨rb, 0, none⟩), .int .i64 f, .int .i64 t] W2 fun e2 w2 => e2 = .returned (.tuple #[.string u, .int .i64 z]) ∧ P w2 ∧ Fr F W w2) := by rw [← hP, ← hF]; exact fun W f t hW => ts_send hW m f t
 have H83 : Hid (∀ W, P W → Calls Tryz.prog 83 #[.pointer (some ⟨rb, 0, none⟩)] W fun e w' => e = .returned (.int .i64 nb) ∧ w' = W) := by rw [← hP, ← hnb]; exact fun W hW => rblocks B rb r W hW.1.rrep
 have HE3 : Hid (∀ W (a1 a2 : Option Addr) (p1 p2 : Nat), Row3 W a1 L p1 → Row3 W a2 L p2 → Calls Tryz.prog 32 #[.slice a1 n p1, .slice a2 n p2] W fun e w' => e = .returned (.bool true) ∧ ∃ q, w' = W.drewN q) := fun W a1 a2 p1 p2 r1 r2 => by
  have h8 := sameSnaps_any a1 a2 L p1 p2 W r1 r2 (by omega)
  rw [hlL] at h8
  exact h8
 have HE1 : Hid (∀ W (a1 a2 : Option Addr) (p1 p2 : Nat), RowG W a1 M p1 → RowG W a2 M p2 → Calls Tryz.prog 47 #[.slice a1 k p1, .slice a2 k p2] W fun e w' => e = .returned (.bool true) ∧ ∃ q, w' = W.drewN q) := fun W a1 a2 p1 p2 r1 r2 => by
  have h8 := sameInts_any a1 a2 M p1 p2 W r1 r2 (by omega)
  rw [hlM] at h8
  exact h8
 have HNw0 : Hid (∀ W, P W → w.heap.size ≤ W.heap.size) := by rw [← hP]; exact fun W hW => hW.2.size
 have HNx : Hid (∀ (W W' : World) (a : Option Addr) (l c : Nat) (v : Value) (zs : List Int) (z : Int), zs.length = l → P W → W.ownsRow w.heap.size 61 3 v n (tlC L) → W.ownsRow w.heap.size 3 1 (.slice a l c) l (i1C zs) → ∀ {v' : Value}, (W.alloc (.cells #[.int .i64 z] 3)).grownBy W' (Value.slice a l c).ownBlock → W'.ownsRow w.heap.size 3 1 v' (l + 1) (i1C zs ++ [.int .i64 z]) → ∃ zs' : List Int, zs'.length = l + 1 ∧ P W' ∧ W'.ownsRow w.heap.size 61 3 v n (tlC L) ∧ W'.ownsRow w.heap.size 3 1 v' (l + 1) (i1C zs')) := by
  rw [← hP]
  intro W W' a l c v zs z hl hW h61 h3 v' hg ho
  have f1 : Fr [] W (W.alloc (.cells #[.int .i64 z] 3)) := (Fr.refl _ _).alloc _
  have f2 : Fr (Value.slice a l c).ownBlock.toList W W' := (f1.mono (by simp)).grown hg (fun k hk => Or.inl (by simp [hk]))
  have ht : ∀ j ∈ (Value.slice a l c).ownBlock.toList, w.heap.size ≤ j ∧ ∃ cur, W.heap[j]? = some (.cells cur 3 (0, 0)) := fun j hj => own_tag h3 (by simpa using hj)
  refine ⟨zs ++ [z], by simp [hl], ⟨hW.1.fr f2 (fun k hk hm => ?_) (fun hm => ?_), hW.2.trans f2 (fun k hk => Or.inr (ht k hk).1)⟩, own_tagged h61 f2 (fun j hj cur e => ?_), by rw [i1C, List.map_append]; exact ho⟩
  · have := (h.lt k hk).2
    have := (ht k hm).1
    omega
  · have := (Array.getElem?_eq_some_iff.1 h.blk).1
    have := (ht _ hm).1
    omega
  · obtain ⟨_, cur', e'⟩ := ht j hj
    rw [e'] at e
    simp at e
 have HFin : Hid (∀ W, P W → TS O B db b rb s r w W) := by rw [← hP]; exact fun W hW => hW
 clear hP hF hn hk hL hM hnb h m
 go_enter Tryz.func54, Tryz.ntmps54
 go_wp2_with (first
  | (go_at_call 47; refine (HE1.out _ (some ⟨g6, 0, none⟩) va7 k vc7 R6.out R7.out).mono ?_; rintro e w8 ⟨rfl, q8, hq8⟩; have H8 : Hid (P w8 ∧ w8.ownsRow w.heap.size 61 3 (.slice va5 n vc5) n (tlC L)) := (by rw [hq8]; exact ⟨HSm.out _ _ H7.out.1 ((Fr.refl _ _).drewN _), own_of_block H7.out.2 (fun _ _ => rfl)⟩); clear hq8)
  | (go_at_call 48; refine (H48.out _ (by first | exact H6.out.1 | exact HSm.out _ _ H6.out.1 (Fr.refl _ _).drew | exact HSm.out _ _ H6.out.1 ((Fr.refl _ _).drewN _))).mono ?_; rintro e w7 ⟨v7, rfl, o7, p7, f7⟩; obtain ⟨va7, vc7, hv7⟩ := own_shape o7; subst hv7
     have f67 : Fr [] w6 w7 := (by first | exact f7 | exact ((Fr.refl _ _).drew).trans f7 (by simp) | exact ((Fr.refl _ _).drewN _).trans f7 (by simp))
     have R6 : Hid (RowG w7 (some ⟨g6, 0, none⟩) M k) := (by have h8 := row1_blk (w := w7) (g := g6) (l := M) (by rw [f67.block g6 (Array.getElem?_eq_some_iff.1 H6.out.2.2).1 (by simp)]; exact H6.out.2.2); rw [hlM] at h8; exact h8)
     have R7 : Hid (RowG w7 va7 M vc7) := row1_own hlM o7
     have H7 : Hid (P w7 ∧ w7.ownsRow w.heap.size 61 3 (.slice va5 n vc5) n (tlC L)) := ⟨p7, own_tagged H6.out.2.1 f67 (by simp)⟩
     clear o7 p7 f7 f67)
  | (go_at_call 46; refine (H46.out _ (by first | exact H5b.out.1 | exact HSm.out _ _ H5b.out.1 (Fr.refl _ _).drew | exact HSm.out _ _ H5b.out.1 ((Fr.refl _ _).drewN _))).mono ?_; rintro e w6 ⟨g6, rfl, p6, c6, f6⟩
     have H6 : Hid (P w6 ∧ w6.ownsRow w.heap.size 61 3 (.slice va5 n vc5) n (tlC L) ∧ w6.heap[g6]? = some (.cells (i1C M).toArray 3 (0, 0))) := ⟨p6, HOw.out (by first | exact H5b.out.2 | exact own_of_block H5b.out.2 (fun _ _ => rfl)) f6, c6⟩
     clear p6 c6 f6)
  | (go_at_call 32; refine (HE3.out w5 (some ⟨g4, 0, none⟩) va5 n vc5 R4.out R5.out).mono ?_; rintro e w5b ⟨rfl, q5, hq5⟩; have H5b : Hid (P w5b ∧ w5b.ownsRow w.heap.size 61 3 (.slice va5 n vc5) n (tlC L)) := (by rw [hq5]; exact ⟨HSm.out _ _ H5.out.1 ((Fr.refl _ _).drewN _), own_of_block H5.out.2 (fun _ _ => rfl)⟩); clear hq5)
  | (go_at_call 33; refine (H33.out _ (by first | exact H4.out.1 | exact HSm.out _ _ H4.out.1 (Fr.refl _ _).drew | exact HSm.out _ _ H4.out.1 ((Fr.refl _ _).drewN _))).mono ?_; rintro e w5 ⟨v5, rfl, o5, p5, f5⟩; obtain ⟨va5, vc5, hv5⟩ := own_shape o5; subst hv5
     have f45 : Fr [] w4 w5 := (by first | exact f5 | exact ((Fr.refl _ _).drew).trans f5 (by simp) | exact ((Fr.refl _ _).drewN _).trans f5 (by simp))
     have R4 : Hid (Row3 w5 (some ⟨g4, 0, none⟩) L n) := (by have h8 := row3_blk (w := w5) (g := g4) (l := L) (by rw [f45.block g4 (Array.getElem?_eq_some_iff.1 H4.out.2).1 (by simp)]; exact H4.out.2); rw [hlL] at h8; exact h8)
     have R5 : Hid (Row3 w5 va5 L vc5) := row3_own hlL o5
     have H5 : Hid (P w5 ∧ w5.ownsRow w.heap.size 61 3 (.slice va5 n vc5) n (tlC L)) := ⟨p5, o5⟩
     clear o5 p5 f5 f45)
  | (go_at_call 31; refine (H31.out _ (by first | exact HP0.out | exact HSm.out _ _ HP0.out (Fr.refl _ _).drew)).mono ?_; rintro e w4 ⟨g4, rfl, p4, c4⟩; have H4 : Hid (P w4 ∧ w4.heap[g4]? = some (.cells (tlC L).toArray 61 (0, 0))) := ⟨p4, c4⟩; clear p4 c4))
 clear H31 H33 H46 HE3 HE1 HP0 H4 H5 H5b H6 H7 R4 R5 R6 R7
 go_loopw [9] (fun i wr => ∃ j : Nat, j ≤ nb ∧ i = .int .i64 j ∧ Hid (P wr ∧ wr.ownsRow w.heap.size 61 3 (.slice va5 n vc5) n (tlC L))) (fun i _ => nb - (intOf i).toNat)
 case atStart => exact ⟨0, Nat.zero_le _, rfl, H8⟩
 case round =>
  obtain ⟨j, hj, rfl, HJ⟩ := hrel
  obtain ⟨W3, hW3⟩ : ∃ W3, W3 = wr := ⟨_, rfl⟩
  subst hW3
  clear H8
  by_cases hlt : j < nb
  · have hltz : (j : Int) < (nb : Int) := by omega
    go_wp2_with (first
     | (go_at_call 28; refine (H10.out _ Fr.dd).mono ?_; rintro e w11 ⟨rfl, p11, f11⟩; have H11 : Hid (P w11 ∧ w11.ownsRow w.heap.size 61 3 (.slice va5 n vc5) n (tlC L)) := ⟨p11, HOw.out HJ.out.2 (by first | exact f11 | exact (Fr.refl _ _).drew.trans f11 (by simp))⟩; clear p11 f11)
     | (go_at_call 27; refine (H27.out W3 j HJ.out.1).mono ?_; rintro e w10 ⟨u, z, rfl, h10⟩; have H10 : Hid (∀ W2, Fr [] w10 W2 → Calls Tryz.prog 28 #[.pointer (some ⟨rb, 0, none⟩), .int .i64 j] W2 fun e2 w2 => e2 = .returned (.tuple #[.string u, .int .i64 z]) ∧ P w2 ∧ Fr F W3 w2) := h10; clear h10)
     | (go_at_call 83; refine (H83.out W3 HJ.out.1).mono ?_; rintro e w' ⟨rfl, hw'⟩; have hw'' := hw'.symm; subst hw''))
    go_roundw
    case rel => exact ⟨j + 1, by omega, by go_num, H11⟩
    case measure => simp [intOf]; omega
  · have hjj : j = nb := by omega
    subst hjj
    go_wp2_with (first
     | (go_at_call 83; refine (H83.out W3 HJ.out.1).mono ?_; rintro e w' ⟨rfl, hw'⟩; have hw'' := hw'.symm; subst hw'')
     | (go_at_call 48; refine (H48.out W3 HJ.out.1).mono ?_; rintro e w7 ⟨v7, rfl, o7, p7, f7⟩; obtain ⟨va7, vc7, hv7⟩ := own_shape o7; subst hv7
        have H7 : Hid (P w7 ∧ w7.ownsRow w.heap.size 61 3 (.slice va5 n vc5) n (tlC L) ∧ w7.ownsRow w.heap.size 3 1 (.slice va7 k vc7) k (i1C M) ∧ w.heap.size ≤ w7.heap.size) := ⟨p7, own_tagged HJ.out.2 f7 (by simp), o7, HNw0.out w7 p7⟩
        clear o7 p7 f7)
     | (at_builtin; refine wpList_append_own _ rfl _ _ 39 rfl w.heap.size 3 i0 _ 1 8 Tryz.underlying39 hi hz0 hz1 hz2 rfl (by omega) (.slice va7 k vc7) k (i1C M) rfl (H7.out.2.2.1.alloc _) ⟨w7.heap.size, 0, none⟩ 1 1 [.int .i64 0] rfl rfl (World.news_of_block (cs := #[.int .i64 0]) (t := 3) (fr := (0, 0)) (heap_alloc_new w7 _)) (by simp [Value.oneCell']) (by unfold maxLen; omega) (by omega) (by have := H7.out.2.2.2; simp; omega) ?_; intro v8 w8 hown8 hgrow8 _
        obtain ⟨va8, vc8, hv8⟩ := own_shape hown8
        subst hv8
        have H8 : Hid (∃ zs : List Int, zs.length = k + 1 ∧ P w8 ∧ w8.ownsRow w.heap.size 61 3 (.slice va5 n vc5) n (tlC L) ∧ w8.ownsRow w.heap.size 3 1 (.slice va8 (k + 1) vc8) (k + 1) (i1C zs)) := HNx.out w7 w8 va7 k vc7 _ M 0 hlM (by simpa using H7.out.1) H7.out.2.1 H7.out.2.2.1 hgrow8 hown8
        clear hown8 hgrow8))
    clear H7 HJ H83 H48 H27
    go_loopw [14, 15] (fun bs i wr => ∃ (t l : Nat) (ba : Option Addr) (bc : Nat), t ≤ n ∧ i = .int .i64 t ∧ bs = .slice ba l bc ∧ l ≤ 13 + t ∧ Hid (∃ zs : List Int, zs.length = l ∧ P wr ∧ wr.ownsRow w.heap.size 61 3 (.slice va5 n vc5) n (tlC L) ∧ wr.ownsRow w.heap.size 3 1 (.slice ba l bc) l (i1C zs))) (fun _ i _ => n - (intOf i).toNat)
    case atStart => exact ⟨0, k + 1, _, _, Nat.zero_le _, rfl, rfl, by omega, H8⟩
    case round =>
     obtain ⟨t, l, ba, bc, ht, rfl, rfl, hl, HT⟩ := hrel
     obtain ⟨W4, hW4⟩ : ∃ W4, W4 = wr := ⟨_, rfl⟩
     subst hW4
     clear H8
     by_cases hlt : t < n
     · have hltz : (t : Int) < (n : Int) := by omega
       have t0 : (0 : Int) ≤ (t : Int) := by omega
       obtain ⟨zs, hzl, hPw, h61, h3⟩ := HT.out
       obtain ⟨g5, hg5, hc5, hcc⟩ := own_addr h61 (by omega)
       subst hg5
       have hg := tlC_get L t (by omega)
       have c5 : W4.cell? ⟨g5, t * 3, none⟩ = some (.int .i64 (L[t]'(by omega)).1) := by rw [hcc (t * 3) (by omega)]; exact hg.1
       obtain ⟨z, hz⟩ : ∃ z, (L[t]'(by omega)).1 = z := ⟨_, rfl⟩
       rw [hz] at c5
       have HQ : Hid (zs.length = l ∧ P W4 ∧ W4.ownsRow w.heap.size 61 3 (.slice (some ⟨g5, 0, none⟩) n vc5) n (tlC L) ∧ W4.ownsRow w.heap.size 3 1 (.slice ba l bc) l (i1C zs) ∧ w.heap.size ≤ W4.heap.size) := ⟨hzl, hPw, h61, h3, HNw0.out W4 hPw⟩
       clear hzl hPw h61 h3 hcc hg hz HT
       go_wp2_with (first
        | (at_builtin; refine wpList_append_own _ rfl _ _ 39 rfl w.heap.size 3 i0 _ 1 8 Tryz.underlying39 hi hz0 hz1 hz2 rfl (by omega) (.slice ba l bc) l (i1C zs) rfl (HQ.out.2.2.2.1.alloc _) ⟨W4.heap.size, 0, none⟩ 1 1 [.int .i64 z] rfl rfl (World.news_of_block (cs := #[.int .i64 z]) (t := 3) (fr := (0, 0)) (heap_alloc_new W4 _)) (by simp [Value.oneCell']) (by unfold maxLen; omega) (by omega) (by have := HQ.out.2.2.2.2; simp; omega) ?_; intro v8 w8 hown8 hgrow8 _
           obtain ⟨va8, vc8, hv8⟩ := own_shape hown8
           subst hv8
           have H8 : Hid (∃ zs : List Int, zs.length = l + 1 ∧ P w8 ∧ w8.ownsRow w.heap.size 61 3 (.slice (some ⟨g5, 0, none⟩) n vc5) n (tlC L) ∧ w8.ownsRow w.heap.size 3 1 (.slice va8 (l + 1) vc8) (l + 1) (i1C zs)) := HNx.out W4 w8 ba l bc _ zs z HQ.out.1 HQ.out.2.1 HQ.out.2.2.1 HQ.out.2.2.2.1 hgrow8 hown8
           clear hown8 hgrow8))
       go_roundw
       case rel => exact ⟨t + 1, l + 1, va8, vc8, by omega, by go_num, rfl, by omega, H8⟩
       case measure => simp [intOf]; omega
     · have htt : t = n := by omega
       subst htt
       go_wp2
       clear HNx
       go_loopw [16] (fun i wr => ∃ t' : Nat, t' ≤ t ∧ i = .int .i64 t' ∧ Hid (∃ zs : List Int, zs.length = l ∧ P wr ∧ wr.ownsRow w.heap.size 61 3 (.slice va5 t vc5) t (tlC L) ∧ wr.ownsRow w.heap.size 3 1 (.slice ba l bc) l (i1C zs))) (fun i _ => t - (intOf i).toNat)
       case atStart => exact ⟨0, Nat.zero_le _, rfl, HT⟩
       case round =>
        obtain ⟨t', ht', rfl, HT'⟩ := hrel
        obtain ⟨W5, hW5⟩ : ∃ W5, W5 = wr := ⟨_, rfl⟩
        subst hW5
        clear HT
        by_cases hlt' : t' < t
        · have hltz : (t' : Int) < (t : Int) := by omega
          have t0 : (0 : Int) ≤ (t' : Int) := by omega
          go_wp2
          go_loopw [17] (fun i wr => ∃ y : Nat, y ≤ l ∧ i = .int .i64 y ∧ Hid (∃ zs : List Int, zs.length = l ∧ P wr ∧ wr.ownsRow w.heap.size 61 3 (.slice va5 t vc5) t (tlC L) ∧ wr.ownsRow w.heap.size 3 1 (.slice ba l bc) l (i1C zs))) (fun i _ => l - (intOf i).toNat)
          case atStart => exact ⟨0, Nat.zero_le _, rfl, HT'⟩
          case round =>
           obtain ⟨y, hy, rfl, HY⟩ := hrel
           obtain ⟨W6, hW6⟩ : ∃ W6, W6 = wr := ⟨_, rfl⟩
           subst hW6
           clear HT'
           by_cases hly : y < l
           · have hlyz : (y : Int) < (l : Int) := by omega
             have y0 : (0 : Int) ≤ (y : Int) := by omega
             obtain ⟨zs, hzl, hPw, h61, h3⟩ := HY.out
             obtain ⟨g5, hg5, hc5, _⟩ := own_addr h61 (by omega)
             subst hg5
             obtain ⟨bg, hbg, hcb, _⟩ := own_addr h3 (by omega)
             subst hbg
             obtain ⟨g, hg⟩ : ∃ g, (L[t']'(by omega)).1 = g := ⟨_, rfl⟩
             obtain ⟨f, hf⟩ : ∃ f, tm zs y = f := ⟨_, rfl⟩
             have HCl : Hid (∀ W, Fr F W6 W → W.cell? ⟨bg, y, none⟩ = some (.int .i64 f) ∧ W.cell? ⟨g5, t' * 3, none⟩ = some (.int .i64 g)) := fun W hW => by
              obtain ⟨_, e1, _, k1⟩ := own_addr (HOw.out h61 hW) (by omega)
              obtain ⟨_, e2, _, k2⟩ := own_addr (HOw.out h3 hW) (by omega)
              simp at e1 e2
              subst e1 e2
              refine ⟨?_, ?_⟩
              · rw [k2 y (by omega), ← hf]
                simp [i1C, tm, hzl, hly]
              · rw [k1 (t' * 3) (by omega), ← hg]
                exact (tlC_get L t' (by omega)).1
             have HQ : Hid (zs.length = l ∧ P W6 ∧ W6.ownsRow w.heap.size 61 3 (.slice (some ⟨g5, 0, none⟩) t vc5) t (tlC L) ∧ W6.ownsRow w.heap.size 3 1 (.slice (some ⟨bg, 0, none⟩) l bc) l (i1C zs)) := ⟨hzl, hPw, h61, h3⟩
             obtain ⟨x1, x2⟩ := HCl.out W6 (Fr.refl _ _)
             clear hzl hPw h61 h3 hg hf HY
             go_wp2
             go_region_held3 (fun w' => w'.cell? ⟨bg, y, none⟩ = some (.int .i64 f) ∧ w'.cell? ⟨g5, t' * 3, none⟩ = some (.int .i64 g))
              (first
               | exact ⟨y1, y2⟩
               | exact ⟨x1, x2⟩
               | go_keep)
              (first
               | (go_at_call 50; refine (H50.out _ f g (by first | exact HQ.out.2.1 | exact HSm.out _ _ HQ.out.2.1 (Fr.refl _ _).drew | exact HSm.out _ _ HQ.out.2.1 ((Fr.refl _ _).drewN _))).mono ?_; rintro e w10 ⟨u, z, rfl, f10, h10⟩
                  have f10' : Fr F W6 w10 := (by first | exact f10 | exact ((Fr.refl F W6).drew).trans f10 (fun k hk => Or.inl hk) | exact ((Fr.refl F W6).drewN _).trans f10 (fun k hk => Or.inl hk))
                  have H10 : Hid (∀ W2, Fr [] w10 W2 → Calls Tryz.prog 51 #[.pointer (some ⟨rb, 0, none⟩), .int .i64 f, .int .i64 g] W2 fun e2 w2 => e2 = .returned (.tuple #[.string u, .int .i64 z]) ∧ P w2 ∧ Fr F W6 w2) := (fun W2 hW2 => (h10 W2 hW2).mono fun _ _ hp => ⟨hp.1, hp.2.1, by first | exact hp.2.2 | exact ((Fr.refl F W6).drew).trans hp.2.2 (fun k hk => Or.inl hk) | exact ((Fr.refl F W6).drewN _).trans hp.2.2 (fun k hk => Or.inl hk)⟩)
                  obtain ⟨y1, y2⟩ := HCl.out w10 f10'
                  clear f10 f10' h10))
             all_goals
              go_wp2
              go_region_held3 (fun w' => w'.cell? ⟨bg, y, none⟩ = some (.int .i64 f) ∧ w'.cell? ⟨g5, t' * 3, none⟩ = some (.int .i64 g))
               (first
                | exact ⟨z1, z2⟩
                | exact ⟨y1, y2⟩
                | go_keep)
               (first
                | (go_at_call 51; refine (H10.out _ Fr.dd).mono ?_; rintro e w11 ⟨rfl, p11, f11⟩
                   obtain ⟨z1, z2⟩ := HCl.out w11 f11
                   have H11 : Hid (∃ zs : List Int, zs.length = l ∧ P w11 ∧ w11.ownsRow w.heap.size 61 3 (.slice (some ⟨g5, 0, none⟩) t vc5) t (tlC L) ∧ w11.ownsRow w.heap.size 3 1 (.slice (some ⟨bg, 0, none⟩) l bc) l (i1C zs)) := ⟨zs, HQ.out.1, p11, HOw.out HQ.out.2.2.1 f11, HOw.out HQ.out.2.2.2 f11⟩
                   clear p11 f11))
              all_goals
               go_wp2
               go_roundw
               case rel => exact ⟨y + 1, by omega, by go_num, H11⟩
               case measure => simp [intOf]; omega
           · have hye : y = l := by omega
             subst hye
             go_wp2
             go_roundw
             case rel => exact ⟨t' + 1, by omega, by go_num, HY⟩
             case measure => simp [intOf]; omega
        · have hte : t' = t := by omega
          subst hte
          go_wp2
          go_ret
          obtain ⟨_, _, hPw, _⟩ := HT'.out
          exact ⟨rfl, HFin.out _ hPw⟩
def la (ls : List Nat) (c : Nat) : Nat → Int
 | 0 => -1
 | i + 1 => if ls.getD i 0 ≤ c then (i : Int) else la ls c i
theorem la_spec (ls : List Nat) (c : Nat) : ∀ n, (la ls c n = -1 ∧ ∀ j, j < n → c < ls.getD j 0) ∨ ∃ j, j < n ∧ la ls c n = (j : Int) ∧ ls.getD j 0 ≤ c ∧ ∀ k, j < k → k < n → c < ls.getD k 0
 | 0 => Or.inl ⟨rfl, fun j hj => by omega⟩
 | n + 1 => by
  unfold la
  by_cases h : ls.getD n 0 ≤ c
  · rw [if_pos h]
    exact Or.inr ⟨n, by omega, rfl, h, fun k h1 h2 => by omega⟩
  · rw [if_neg h]
    rcases la_spec ls c n with ⟨h1, h2⟩ | ⟨j, h0, h1, h2, h3⟩
    · refine Or.inl ⟨h1, fun j hj => ?_⟩
      by_cases e : j = n
      · subst e; omega
      · exact h2 j (by omega)
    · refine Or.inr ⟨j, by omega, h1, h2, fun k h4 h5 => ?_⟩
      by_cases e : k = n
      · subst e; omega
      · exact h3 k h4 (by omega)
theorem own_short {w : World} {base : Nat} {e : TypeId} {size : Nat} {g c n k : Nat} {xs : List Value} (h : w.ownsRow base e size (.slice (some ⟨g, 0, none⟩) n c) n xs) (hk : k ≤ n) : w.ownsRow base e size (.slice (some ⟨g, 0, none⟩) k c) k (xs.take (k * size)) := by
 have hl := h.1
 rcases h.2 with ⟨h1, _⟩ | ⟨g', c', cur, h1, hb, hg, hc, hm, hs, ht⟩
 · simp at h1
 · simp only [Value.slice.injEq, Option.some.injEq, Addr.mk.injEq, and_true, true_and] at h1
   obtain ⟨e1, e2⟩ := h1
   subst e1 e2
   have hle : k * size ≤ n * size := Nat.mul_le_mul_right _ hk
   refine ⟨by rw [List.length_take]; omega, Or.inr ⟨g, c, cur, rfl, hb, hg, by omega, hm, hs, ?_⟩⟩
   rw [← ht, List.take_take, Nat.min_eq_left hle]
theorem ptC_take : ∀ (ps : List Pt) (k : Nat), (ptC ps).take (k * 2) = ptC (ps.take k)
 | [], k => by simp [ptC]
 | a :: r, 0 => by simp [ptC]
 | a :: r, k + 1 => by
  have e : ∀ l, ptC (a :: l) = .int .i64 a.lg.length :: .pointer (some ⟨a.c, 0, none⟩) :: ptC l := fun l => by simp [ptC, Pt.cs]
  rw [List.take_succ_cons, e, e, show (k + 1) * 2 = k * 2 + 1 + 1 by omega, List.take_succ_cons, List.take_succ_cons, ptC_take r k]
def S2 (w : World) (x : SdR) (p : Pt) (q b' : Nat) (W : World) : Prop := ∃ s', Rep w.heap.size W b' 0 s' ∧ Sim s' p.r q ∧ s'.log = p.lg ∧ Fr (foot x.b x.s) w W
def S3 (B : Nat) (w : World) (x : SdR) (p : Pt) (q b' cb : Nat) (W : World) : Prop := ∃ s' rc, SD x.o B W x.db b' cb s' rc ∧ Sim s' rc q ∧ s'.log = p.lg ∧ RQ p.r rc ∧ (∀ k ∈ sft b' cb s' rc, w.heap.size ≤ k) ∧ Fr (foot x.b x.s) w W
section
variable {w0 : World} {B : Nat} {w W W' : World} {wb : Nat} {sv tv : Value} {T : List ByteArray} {kv mv : Value} {sds : List SdR} {K M : List (Nat × Nat × Nat)} {q i : Nat} {x : SdR} {p : Pt} {b' cb : Nat}
theorem S2.same (h : S2 w x p q b' W) (hf : Fr [] W W') : S2 w x p q b' W' := by
 obtain ⟨s', rp, m, hl, f⟩ := h
 exact ⟨s', rp.kept0 hf, m, hl, f.trans hf (by simp)⟩
theorem LS.lnW (h : LS w0 none B w wb sv tv T kv mv sds K M q) (hx : sds[i]? = some x) (hf : Fr (foot x.b x.s) w W) : LnM B W x ∧ W.heap[x.db]? = some x.o := by
 have sdx := (h.sd i x hx).1
 have tg := sft_tags sdx
 refine ⟨(h.ln i x hx).1.fr hf (fun k hk cur e => by have := tg k (List.mem_append_left _ hk) cur _ e; simp at this) (fun p hp k hk hm => h.cd i i x x hx hx p hp k hk (List.mem_append_left _ hm)), ?_⟩
 rw [hf.block x.db (Array.getElem?_eq_some_iff.1 sdx.blk).1 (fun hm => sdx.ndb (List.mem_append_left _ hm))]
 exact sdx.blk
theorem S2.clone (h : LS w0 none B w wb sv tv T kv mv sds K M q) (hx : sds[i]? = some x) (hp : p ∈ x.ps) (hS : S2 w x p q b' W) : Calls Tryz.prog 15 #[.pointer (some ⟨p.c, 0, none⟩)] W fun e w3 => ∃ cb, e = .returned (.pointer (some ⟨cb, 0, none⟩)) ∧ S3 B w x p q b' cb w3 := by
 obtain ⟨s', rp, m, hl, f⟩ := hS
 obtain ⟨ln, hblk⟩ := h.lnW hx f
 have hlen := m.len
 have e1 := m.glen
 have e2 := m.mlen
 refine (clone_any B p.c p.r W (ln.cl p hp) (by omega) (by omega)).mono ?_
 rintro e w3 ⟨cb, sv', mv', rfl, r3, f3⟩
 have hBw : B ≤ w.heap.size := h.hB
 have hsz := f.size
 have hdb : x.db < w.heap.size := (Array.getElem?_eq_some_iff.1 (h.sd i x hx).1.blk).1
 have hn : ∀ k ∈ sft b' cb s' { p.r with sv := sv', mv := mv' }, w.heap.size ≤ k := fun k hk => by
  rcases List.mem_append.1 hk with hk | hk
  · exact (rp.lt k hk).1
  · have := (r3.lt k hk).1
    omega
 refine ⟨cb, rfl, s', _, ⟨?_, (rp.kept0 f3).baseL hBw, r3.baseL (by omega), fun k hk hm => ?_, (h.sd i x hx).1.hdb, fun hm => ?_⟩, m.rq ⟨sv', mv', rfl⟩, hl, ⟨sv', mv', rfl⟩, hn, f.trans f3 (by simp)⟩
 · rw [f3.block x.db (by omega) (by simp)]
   exact hblk
 · have h1 := (rp.lt k hk).2
   have h2 := (r3.lt k hm).1
   omega
 · have := hn _ hm
   omega
theorem S3.tells (hS : S3 B w x p q b' cb W) : Calls Tryz.prog 54 #[.pointer (some ⟨b', 0, none⟩), .pointer (some ⟨cb, 0, none⟩)] W fun e w4 => e = .returned (.bool true) ∧ S3 B w x p q b' cb w4 := by
 obtain ⟨s', rc, sd, m, hl, hq, hn, f⟩ := hS
 refine (tells_any x.o B x.db b' cb s' rc q W sd m).mono ?_
 rintro e w4 ⟨rfl, t4⟩
 exact ⟨rfl, s', rc, t4.1, m, hl, hq, hn, f.trans t4.2 (fun k hk => Or.inr (hn k hk))⟩
theorem S3.log (hS : S3 B w x p q b' cb W) (h0 : 0 < p.lg.length) : Calls Tryz.prog 14 #[.pointer (some ⟨b', 0, none⟩)] W fun e w5 => e = .returned (.string (ofL p.lg)) ∧ S3 B w x p q b' cb w5 := by
 obtain ⟨s', rc, sd, m, hl, hq, hn, f⟩ := hS
 have h8 := log_any B b' s' W sd.rep (by rw [hl]; exact h0)
 rw [hl] at h8
 refine h8.mono ?_
 rintro e w5 ⟨rfl, rp, f5⟩
 obtain ⟨sd5, g5⟩ := sd.keptP rp f5
 exact ⟨rfl, s', rc, sd5, m, hl, hq, hn, f.trans g5 (fun k hk => Or.inr (hn k hk))⟩
theorem LS.opened (h : LS w0 none B w wb sv tv T kv mv sds K M q) (hx : sds[i]? = some x) {j : Nat} (hj : x.ps[j]? = some p) {g lc : Nat} (hlv : x.lnv = .slice (some ⟨g, 0, none⟩) x.ps.length lc) (hS : S3 B w x p q b' cb W) :
  ∃ sds', LS w0 none B (((W.setCell ⟨x.db, 0, none⟩ (.pointer (some ⟨b', 0, none⟩))).setCell ⟨x.db, 1, none⟩ (.pointer (some ⟨cb, 0, none⟩))).setCell ⟨x.db, 2, none⟩ (.slice (some ⟨g, 0, none⟩) (j + 1) lc)) wb sv tv T kv mv sds' K M q ∧ sds'.map SdR.db = sds.map SdR.db := by
 obtain ⟨s', rc, sd, m, hl, hq, hn, f⟩ := hS
 obtain ⟨ln, hblk⟩ := h.lnW hx f
 have hjl : j < x.ps.length := (List.getElem?_eq_some_iff.1 hj).1
 have hdb : x.db < w.heap.size := (Array.getElem?_eq_some_iff.1 (h.sd i x hx).1.blk).1
 obtain ⟨Z, hZ⟩ : ∃ Z, ((W.setCell ⟨x.db, 0, none⟩ (.pointer (some ⟨b', 0, none⟩))).setCell ⟨x.db, 1, none⟩ (.pointer (some ⟨cb, 0, none⟩))).setCell ⟨x.db, 2, none⟩ (.slice (some ⟨g, 0, none⟩) (j + 1) lc) = Z := ⟨_, rfl⟩
 have fZ : Fr [x.db] W Z := by rw [← hZ]; exact (((Fr.refl _ _).setCell _ (Or.inl (by simp))).setCell _ (Or.inl (by simp))).setCell _ (Or.inl (by simp))
 have bZ : Z.heap[x.db]? = some (sdO b' cb (.slice (some ⟨g, 0, none⟩) (j + 1) lc)) := by
  have b0 : W.heap[x.db]? = some (.cells #[.pointer (some ⟨x.b, 0, none⟩), .pointer (some ⟨x.rb, 0, none⟩), x.lnv] 53 (0, 0)) := hblk
  rw [← hZ, heap_setCell_same _ _ _ _ _ _ (heap_setCell_same _ _ _ _ _ _ (heap_setCell_same _ _ _ _ _ _ b0))]
  rfl
 rw [hZ]
 have hrow : W.ownsRow B 57 2 (.slice (some ⟨g, 0, none⟩) (j + 1) lc) (j + 1) (ptC (x.ps.take (j + 1))) := by
  have h1 := ln.row
  rw [hlv] at h1
  rw [← ptC_take]
  exact own_short h1 (by omega)
 have hfF : Fr (x.db :: foot x.b x.s) w Z := (f.mono (fun k hk => List.mem_cons_of_mem _ hk)).trans fZ (fun k hk => Or.inl (by simp at hk; simp [hk]))
 have lt := h.sd i x hx
 have lnx := h.ln i x hx
 refine ⟨_, h.swap hx hfF (fun k hk => ?_) ⟨x.db, b', cb, s', rc, .slice (some ⟨g, 0, none⟩) (j + 1) lc, x.ps.take (j + 1)⟩ rfl ⟨bZ, sd.rep.kept fZ (fun k hk hm => ?_), sd.rrep.kept fZ (fun k hk hm => ?_), sd.dis, sd.hdb, sd.ndb⟩ m (Nat.le_refl _) ⟨?_, fun p' hp' => (ln.cl p' (List.mem_of_mem_take hp')).kept fZ (fun k hk hm => ?_)⟩ ⟨?_, fun p' hp' => ?_, fun _ p' hp' => ?_, ?_⟩ (fun k hk => Or.inr (hn k hk)) (fun p' hp' => Or.inl (List.mem_of_mem_take hp')) (fun p' hp' k hk hm => ?_) (fun k hk => ?_) (Or.inl rfl)⟩
 · rcases List.mem_cons.1 hk with rfl | hk
   · exact Or.inl rfl
   · exact Or.inr (Or.inl (List.mem_append_left _ hk))
 · have e : k = x.db := by simpa using hm
   have := hn k (List.mem_append_left _ hk)
   omega
 · have e : k = x.db := by simpa using hm
   have := hn k (List.mem_append_right _ hk)
   omega
 · show Z.ownsRow B 57 2 _ (x.ps.take (j + 1)).length _
   rw [List.length_take, Nat.min_eq_left (by omega)]
   exact own_tagged hrow fZ (fun k hk cur e => by
    have e' : k = x.db := by simpa using hk
    rw [e', show W.heap[x.db]? = some (.cells _ 53 (0, 0)) from hblk] at e
    simp at e)
 · have e : k = x.db := by simpa using hm
   rw [e] at hk
   rcases rfoot_tag (ln.cl p' (List.mem_of_mem_take hp')) hk (show W.heap[x.db]? = some (.cells _ 53 (0, 0)) from hblk) with h | h | h <;> cases h
 · obtain ⟨d, n, h1⟩ := lnx.2.ch
   refine ⟨d, n, ?_⟩
   show PCh d n ((x.ps.take (j + 1)).map Pt.lr)
   rw [List.map_take]
   exact h1.take j
 · have e : p' = p := by
     have h1 : (x.ps.take (j + 1)).getLast? = some p' := hp'
     rw [List.getLast?_eq_getElem?, List.length_take, Nat.min_eq_left (by omega), Nat.add_sub_cancel, List.getElem?_take_of_lt (by omega), hj] at h1
     exact (Option.some.inj h1).symm
   subst e
   exact Or.inl ⟨hl, hq⟩
 · have e : p' = p := by
     have h1 : (x.ps.take (j + 1)).getLast? = some p' := hp'
     rw [List.getLast?_eq_getElem?, List.length_take, Nat.min_eq_left (by omega), Nat.add_sub_cancel, List.getElem?_take_of_lt (by omega), hj] at h1
     exact (Option.some.inj h1).symm
   subst e
   exact ⟨hl.symm, hq⟩
 · show (x.ps.take (j + 1)).length ≤ _
   have := lnx.2.len
   rw [List.length_take]
   omega
 · have h1 := ((lnx.1.cl p' (List.mem_of_mem_take hp')).lt k hk).2
   have h2 := hn k hm
   omega
 · rw [hlv]
   exact Or.inl (by simpa [Value.ownBlock] using hk)
theorem ext_take (l : List UInt8) (c : Nat) : (ofL l).extract 0 c = ofL (l.take c) := by
 refine ofL_ext ?_
 rw [ext_list, ofL_list, ofL_list, List.drop_zero, Nat.sub_zero]
def PO (B : Nat) (w : World) (x : SdR) (q c : Nat) (xp : Option Addr) (ev : Int) (W : World) : Prop :=
 Rep B W x.b 0 x.s ∧ Fr (foot x.b x.s) w W ∧ ((la (x.ps.map fun p => p.lg.length) c x.ps.length = -1 ∧ xp = none ∧ ev = 2) ∨ ∃ (j : Nat) (p : Pt) (b' : Nat), la (x.ps.map fun p => p.lg.length) c x.ps.length = (j : Int) ∧ x.ps[j]? = some p ∧ xp = some ⟨b', 0, none⟩ ∧ ev = 0 ∧ S2 w x p q b' W)
theorem PO.same {c : Nat} {xp : Option Addr} {ev : Int} (h : PO B w x q c xp ev W) (hf : Fr [] W W') : PO B w x q c xp ev W' := by
 obtain ⟨rp, f, h1⟩ := h
 refine ⟨rp.kept0 hf, f.trans hf (by simp), h1.imp id ?_⟩
 rintro ⟨j, p, b', e1, e2, e3, e4, hS⟩
 exact ⟨j, p, b', e1, e2, e3, e4, hS.same hf⟩
theorem getD_map {α : Type} {l : List α} {f : α → Nat} {j : Nat} {a : α} (h : l[j]? = some a) : (l.map f).getD j 0 = f a := by
 rw [List.getD_eq_getElem?_getD, List.getElem?_map, h]
 rfl
theorem LS.opensTo (h : LS w0 none B w wb sv tv T kv mv sds K M q) (hx : sds[i]? = some x) (hq : q ≤ 1900000) (c : Nat) (hc : c ≤ x.s.log.length) (rp : Rep B W x.b 0 x.s) (f : Fr (foot x.b x.s) w W) :
  Calls Tryz.prog 20 #[.string ((ofL x.s.log).extract 0 c)] W fun e w2 => ∃ xp ev, e = .returned (.tuple #[.pointer xp, .int .i64 ev]) ∧ PO B w x q c xp ev w2 := by
 rw [ext_take]
 have lnx := h.ln i x hx
 obtain ⟨d, n, hC⟩ := lnx.2.ch
 have hne := hC.ne
 obtain ⟨z, hzl⟩ : ∃ p, x.ps.getLast? = some p := ⟨_, List.getLast?_eq_some_getLast hne⟩
 have hz := map_last hzl
 obtain ⟨ez, _⟩ := lnx.2.ex (by simp) z hzl
 have hlen := lnx.2.len
 have hlog := (h.sd i x hx).2.lg
 obtain ⟨r0, hr0, _⟩ := hC.first
 have hpos : 0 < x.ps.length := List.length_pos_iff.2 hne
 obtain ⟨p0, hp0⟩ : ∃ p0, x.ps[0]? = some p0 := ⟨_, List.getElem?_eq_getElem hpos⟩
 have e0 : p0.lg = entN d n := by
  rw [List.getElem?_map, hp0] at hr0
  simp [Pt.lr] at hr0
  exact hr0.1
 rcases la_spec (x.ps.map fun p => p.lg.length) c x.ps.length with ⟨h1, h2⟩ | ⟨j, hj, h1, h2, h3⟩
 · have h4 := h2 0 hpos
   rw [getD_map hp0, e0, entN_len] at h4
   obtain ⟨t, ht⟩ := hC.pre 0 ((x.ps.map Pt.lr).length - 1) p0.lr z.lr (by rw [List.getElem?_map, hp0]; rfl) (by rw [Nat.zero_add]; exact hz)
   have e1 : x.s.log = entN d n ++ t := by rw [← ez, ← e0]; exact ht
   rw [e1]
   refine (open_short d n t c W (by omega)).mono ?_
   rintro e w2 ⟨rfl, f2⟩
   exact ⟨none, 2, rfl, rp.kept0 f2, f.trans f2 (by simp), Or.inl ⟨h1, rfl, rfl⟩⟩
 · obtain ⟨p, hp⟩ : ∃ p, x.ps[j]? = some p := ⟨_, List.getElem?_eq_getElem hj⟩
   rw [getD_map hp] at h2
   have h9 := open_points d n (x.ps.map Pt.lr) hC (by rw [List.length_map]; omega) z.lr hz c j (by omega) p.lr (by rw [List.getElem?_map, hp]; rfl) h2 (fun y hy => by
    rw [List.getElem?_map] at hy
    cases hq' : x.ps[j + 1]? with
    | none => rw [hq'] at hy; cases hy
    | some p' =>
     rw [hq'] at hy
     simp at hy
     have h5 := h3 (j + 1) (by omega) (List.getElem?_eq_some_iff.1 hq').1
     rw [getD_map hq'] at h5
     rw [← hy]
     exact h5) W
   rw [show z.lr.1 = x.s.log from ez] at h9
   refine h9.mono ?_
   rintro e w2 ⟨b', s', q', hq', rfl, rp', m', hl', f2⟩
   rw [List.length_map] at hq'
   exact ⟨_, _, rfl, rp.kept0 f2, f.trans f2 (by simp), Or.inr ⟨j, p, b', h1, hp, rfl, rfl, s', rp'.baseL f.size, m'.le (by omega), hl', f.trans f2 (by simp)⟩⟩
end
end Go.Proofs.YthdhegmlknpllaaGreat
