import Derived.Test.YthdhegmlknpllaaGreatM21
/-
  The walk of the law's store (16): Destroy, Snaps, Marks.
-/
namespace Go.Proofs.YthdhegmlknpllaaGreat
open Go.RowKit Go.Maps Go.MuLone

section
variable {w0 : World} {B : Nat} {w w' : World} {wb : Nat} {sv tv : Value} {T : List ByteArray} {kv mv : Value} {sds : List SdR} {K M : List (Nat × Nat × Nat)} {q : Nat}
/-- The program's store is asked. -/
theorem LS.still (h : LS w0 B w wb sv tv T kv mv sds K M q) {i : Nat} {x : SdR} (hx : sds[i]? = some x) (rp : Rep B w' x.b 0 x.s) (f : Fr (foot x.b x.s) w w') : LS w0 B w' wb sv tv T kv mv sds K M q := by
  have sdi := (h.sd i x hx).1
  have tg := sft_tags sdi
  refine ⟨h.wm.fr f (fun j hj cur t e => by rcases tg j (List.mem_append_left _ hj) cur t e with h | h | h | h | h | h | h | h <;> subst h <;> decide), fun j y hy => ?_, h.dj, h.k4, h.kl, h.kb, h.be.trans (f.below h.hB (fun k hk => (sdi.rep.lt k hk).1)), h.tl⟩
  by_cases e : j = i
  · subst e
    have hyx : y = x := by rw [hx] at hy; exact (Option.some.inj hy).symm
    subst hyx
    refine ⟨⟨?_, rp, sdi.rrep.kept f (fun k hk hm => sdi.dis k hm hk), sdi.dis, sdi.hdb⟩, (h.sd j y hy).2⟩
    rw [f.block y.db (Array.getElem?_eq_some_iff.1 sdi.blk).1 (fun hm => sdi.ndb (List.mem_append_left _ hm))]
    exact sdi.blk
  · have hj := h.sd j y hy
    refine ⟨hj.1.fr f (fun k hk hm => h.dj j i y x e hy hx k hk (List.mem_append_left _ hm)) (fun hm => ?_), hj.2⟩
    have := tg y.db (List.mem_append_left _ hm) _ _ hj.1.blk
    simp at this
theorem LS.kfar (h : LS w0 B w wb sv tv T kv mv sds K M q) {g : Nat} (hg : w.heap.size ≤ g) : (∀ x ∈ K, x.1 ≠ g) ∧ (∀ x ∈ M, x.1 ≠ g) := by
  refine ⟨fun x hx => ?_, fun x hx => ?_⟩
  · obtain ⟨i, hi, e⟩ := List.getElem_of_mem hx
    have := (h.wm.kk i x (by rw [List.getElem?_eq_getElem hi, e])).2.lt
    omega
  · obtain ⟨i, hi, e⟩ := List.getElem_of_mem hx
    have := (h.wm.mi i x (by rw [List.getElem?_eq_getElem hi, e])).2.lt
    omega
end

set_option maxRecDepth 100000 in
set_option maxHeartbeats 1600000 in
theorem store_destroy (w0 : World) (B wb : Nat) (sv tv : Value) (T : List ByteArray) (kv mv : Value) (sds : List SdR) (K M : List (Nat × Nat × Nat)) (q : Nat) (i : Nat) (x : SdR) (at' a b : Int) (t : ByteArray) (lo : Option Addr) (zs : List Int) (c : Nat) (w : World) (h : LS w0 B w wb sv tv T kv mv sds K M q) (hx : sds[i]? = some x) (hr : RowG w lo zs c) (hnil : lo = none → c = 0) (hlow : ∀ k off, lo = some ⟨k, off, none⟩ → 0 < zs.length → k < B) (hb : ∀ i, i < zs.length → In64 (tm zs i)) (hz : zs.length ≤ 1500000) (hq : q ≤ 2000000) :
    Calls Tryz.prog 16 #[.pointer (some ⟨wb, 0, none⟩), .pointer (some ⟨x.db, 0, none⟩), .agg #[.int .i64 8, .int .i64 at', .int .i64 a, .int .i64 b, .string t, .slice lo zs.length c]] w fun e w' => e = .returned (.bool true) ∧ LP w0 B w' wb sv (sds.map SdR.db) (q + 1) := by
  obtain ⟨db, hdb⟩ : ∃ db, x.db = db := ⟨_, rfl⟩
  obtain ⟨n, hn⟩ : ∃ n, zs.length = n := ⟨_, rfl⟩
  obtain ⟨D, hD⟩ : ∃ D, sds.map SdR.db = D := ⟨_, rfl⟩
  obtain ⟨W1, hW1⟩ : ∃ W1, w.alloc (.cells #[.int .i64 8, .int .i64 at', .int .i64 a, .int .i64 b, .string t, .slice lo n c] 41) = W1 := ⟨_, rfl⟩
  obtain ⟨ob, hob⟩ : ∃ ob, w.heap.size = ob := ⟨_, rfl⟩
  have o1 : W1.heap[ob]? = some (.cells #[.int .i64 8, .int .i64 at', .int .i64 a, .int .i64 b, .string t, .slice lo n c] 41 (0, 0)) := by rw [← hW1, ← hob]; exact heap_alloc_new w _
  have f1 : Fr [] w W1 := by rw [← hW1]; exact (Fr.refl _ _).alloc _
  have h1 : LS w0 B W1 wb sv tv T kv mv sds K M q := h.same f1
  have k0 : W1.cell? ⟨ob, 0, none⟩ = some (.int .i64 8) := by rw [cell_of o1]; rfl
  have k5 : W1.cell? ⟨ob, 5, none⟩ = some (.slice lo n c) := by rw [cell_of o1]; rfl
  have HP : Hid (∀ W, Fr [] W1 W → Calls Tryz.prog 41 #[.pointer (some ⟨db, 0, none⟩), .slice lo n c] W fun e w' => e = .returned (.bool true) ∧ LP w0 B w' wb sv D (q + 1)) := fun W hW => by
    have hW2 := h1.same hW
    rw [← hdb, ← hD, ← hn]
    refine (destroys_any B x.db x.b x.rb x.s x.r q lo zs c W (hW2.sd i x hx).1 (hW2.sd i x hx).2 ((hr.fr f1 (by simp)).fr hW (by simp)) hnil hlow hb hz hq).mono ?_
    rintro e w' ⟨rfl, sn⟩
    exact ⟨rfl, hW2.side hx sn⟩
  rw [hdb, hD, hn]
  clear h h1 hx o1 f1 hr hnil hlow hb hz hdb hD hn
  go_enter Tryz.func16, Tryz.ntmps16
  go_wp2_with (first
    | (go_at_call 41; refine (HP.out _ (by first | exact Fr.refl _ _ | exact (Fr.refl _ _).drew | exact (Fr.refl _ _).drewN _)).mono ?_; rintro e w5 ⟨rfl, l5⟩; have H5 : Hid (LP w0 B w5 wb sv D (q + 1)) := l5; clear l5))
  go_ret
  exact ⟨rfl, H5.out⟩

theorem row1_blk {w : World} {g : Nat} {l : List Int} (h : w.heap[g]? = some (.cells (i1C l).toArray 3 (0, 0))) : RowG w (some ⟨g, 0, none⟩) l l.length := by
  refine ⟨Nat.le_refl _, fun _ => ⟨g, 0, rfl, fun i hi => ?_⟩⟩
  rw [Nat.zero_add, cell_of h, List.getElem?_toArray]
  simp [i1C, tm, hi]
theorem row1_own {w : World} {base : Nat} {ao : Option Addr} {n cap : Nat} {l : List Int} (hn : l.length = n) (h : w.ownsRow base 3 1 (.slice ao n cap) n (i1C l)) : RowG w ao l cap := by
  subst hn
  rcases h.2 with ⟨h1, h2⟩ | ⟨g, c, cur, h1, hb, hg, hc, hm, hs, ht⟩
  · exact ⟨by omega, fun h0 => by omega⟩
  · simp only [Value.slice.injEq] at h1
    obtain ⟨rfl, _, rfl⟩ := h1
    refine ⟨hc, fun _ => ⟨g, 0, rfl, fun i hi => ?_⟩⟩
    have e : (i1C l)[i]? = some (.int .i64 (tm l i)) := by simp [i1C, tm, hi]
    rw [Nat.zero_add, cell_of hg, ← e, ← ht, List.getElem?_take_of_lt (by omega), Array.getElem?_toList]

set_option maxRecDepth 100000 in
set_option maxHeartbeats 1600000 in
theorem store_snaps (w0 : World) (B wb : Nat) (sv tv : Value) (T : List ByteArray) (kv mv : Value) (sds : List SdR) (K M : List (Nat × Nat × Nat)) (q : Nat) (i : Nat) (x : SdR) (at' a b : Int) (t : ByteArray) (lo : Option Addr) (nn c : Nat) (w : World) (h : LS w0 B w wb sv tv T kv mv sds K M q) (hx : sds[i]? = some x) (hq : q ≤ 2000000) :
    Calls Tryz.prog 16 #[.pointer (some ⟨wb, 0, none⟩), .pointer (some ⟨x.db, 0, none⟩), .agg #[.int .i64 4, .int .i64 at', .int .i64 a, .int .i64 b, .string t, .slice lo nn c]] w fun e w' => e = .returned (.bool true) ∧ LP w0 B w' wb sv (sds.map SdR.db) (q + 1) := by
  obtain ⟨db, hdb⟩ : ∃ db, x.db = db := ⟨_, rfl⟩
  obtain ⟨xb, hxb⟩ : ∃ xb, x.b = xb := ⟨_, rfl⟩
  obtain ⟨rb, hrb⟩ : ∃ rb, x.rb = rb := ⟨_, rfl⟩
  obtain ⟨n, hn⟩ : ∃ n, x.s.ss.length = n := ⟨_, rfl⟩
  obtain ⟨D, hD⟩ : ∃ D, sds.map SdR.db = D := ⟨_, rfl⟩
  obtain ⟨W1, hW1⟩ : ∃ W1, w.alloc (.cells #[.int .i64 4, .int .i64 at', .int .i64 a, .int .i64 b, .string t, .slice lo nn c] 41) = W1 := ⟨_, rfl⟩
  obtain ⟨ob, hob⟩ : ∃ ob, w.heap.size = ob := ⟨_, rfl⟩
  have o1 : W1.heap[ob]? = some (.cells #[.int .i64 4, .int .i64 at', .int .i64 a, .int .i64 b, .string t, .slice lo nn c] 41 (0, 0)) := by rw [← hW1, ← hob]; exact heap_alloc_new w _
  have h1 : LS w0 B W1 wb sv tv T kv mv sds K M q := h.same (by rw [← hW1]; exact (Fr.refl _ _).alloc _)
  have k0 : W1.cell? ⟨ob, 0, none⟩ = some (.int .i64 4) := by rw [cell_of o1]; rfl
  have HC : Hid (∀ W, LS w0 B W wb sv tv T kv mv sds K M q → W.cell? ⟨db, 0, none⟩ = some (.pointer (some ⟨xb, 0, none⟩)) ∧ W.cell? ⟨db, 1, none⟩ = some (.pointer (some ⟨rb, 0, none⟩))) := fun W hW => by
    have h8 := (hW.sd i x hx).1.blk
    rw [hdb, hxb, hrb] at h8
    refine ⟨?_, ?_⟩ <;> rw [cell_of h8] <;> rfl
  have m := (h.sd i x hx).2
  have hl12 := m.len
  have HA : Hid (∀ W, LS w0 B W wb sv tv T kv mv sds K M q → Calls Tryz.prog 31 #[.pointer (some ⟨xb, 0, none⟩)] W fun e w4 => ∃ gg, e = .returned (.slice (some ⟨gg, 0, none⟩) n n) ∧ LS w0 B w4 wb sv tv T kv mv sds K M q ∧ w4.heap[gg]? = some (.cells (tlC (x.s.ss.map t3)).toArray 61 (0, 0)) ∧ W.heap.size ≤ gg) := fun W hW => by
    rw [← hxb, ← hn]
    refine (snaps_any B x.b x.s W (hW.sd i x hx).1.rep (by omega)).mono ?_
    rintro e w4 ⟨gg, rfl, hgg, hc, rp, f⟩
    exact ⟨gg, rfl, hW.still hx rp f, hc, hgg⟩
  have HR : Hid (∀ W, LS w0 B W wb sv tv T kv mv sds K M q → Calls Tryz.prog 33 #[.pointer (some ⟨rb, 0, none⟩)] W fun e w5 => ∃ v, e = .returned v ∧ w5.ownsRow W.heap.size 61 3 v n (tlC (x.s.ss.map t3)) ∧ Fr [] W w5) := fun W hW => by
    have h8 := rsnaps_any B x.rb x.r W (hW.sd i x hx).1.rrep (by have := m.glen; omega)
    rw [← m.ss, m.glen, hrb, hn] at h8
    exact h8
  have HE : Hid (∀ W (a1 a2 : Option Addr) (p1 p2 : Nat), Row3 W a1 (x.s.ss.map t3) p1 → Row3 W a2 (x.s.ss.map t3) p2 → Calls Tryz.prog 32 #[.slice a1 n p1, .slice a2 n p2] W fun e w' => e = .returned (.bool true) ∧ ∃ q, w' = W.drewN q) := fun W a1 a2 p1 p2 r1 r2 => by
    have h8 := sameSnaps_any a1 a2 (x.s.ss.map t3) p1 p2 W r1 r2 (by rw [List.length_map]; omega)
    rw [List.length_map, hn] at h8
    exact h8
  have HN : Hid ((x.s.ss.map t3).length = n ∧ (tlC (x.s.ss.map t3)).length = n * 3) := ⟨by rw [List.length_map, hn], by rw [tlC_len, List.length_map, hn]⟩
  have HK : Hid (∀ W gg, LS w0 B W wb sv tv T kv mv sds K M q → W.heap[gg]? = some (.cells (tlC (x.s.ss.map t3)).toArray 61 (0, 0)) → (∀ y ∈ K, y.1 ≠ gg) → B ≤ gg → Calls Tryz.prog 34 #[.pointer (some ⟨wb, 0, none⟩), .slice (some ⟨gg, 0, none⟩) n n] W fun e w' => e = .returned (.tuple #[]) ∧ LP w0 B w' wb sv D (q + 1)) := fun W gg hW hg hk hB => by
    have k4 := hW.k4
    have kl := hW.kl
    refine (keepSnaps_any B wb sv tv T mv kv (sds.map SdR.db) M K gg n W hW.wm _ hg (by simpa using HN.out.2) (by omega) hk k4.1 (by omega) hB).mono ?_
    rintro e w' ⟨rfl, p⟩
    rw [← hD]
    exact ⟨rfl, hW.keepK hg hB p⟩
  have H1 : Hid (LS w0 B W1 wb sv tv T kv mv sds K M q) := h1
  obtain ⟨c0, _⟩ := HC.out W1 h1
  have H5r : Hid (∀ w4 w5 (gg : Nat), LS w0 B w4 wb sv tv T kv mv sds K M q → w4.heap[gg]? = some (.cells (tlC (x.s.ss.map t3)).toArray 61 (0, 0)) → Fr [] w4 w5 → LS w0 B w5 wb sv tv T kv mv sds K M q ∧ w5.heap[gg]? = some (.cells (tlC (x.s.ss.map t3)).toArray 61 (0, 0)) ∧ Row3 w5 (some ⟨gg, 0, none⟩) (x.s.ss.map t3) n) := fun w4 w5 gg l4 g4 f5 => by
    have g5 : w5.heap[gg]? = some (.cells (tlC (x.s.ss.map t3)).toArray 61 (0, 0)) := by rw [f5.block gg (Array.getElem?_eq_some_iff.1 g4).1 (by simp)]; exact g4
    refine ⟨l4.same f5, g5, ?_⟩
    have h8 := row3_blk g5
    rw [HN.out.1] at h8
    exact h8
  rw [hdb, hD]
  clear h h1 hx o1 hdb hxb hrb hD m hl12 hn
  go_enter Tryz.func16, Tryz.ntmps16
  go_wp2_with (first
    | (go_at_call 31; refine (HA.out _ (by first | exact H1.out | exact H1.out.same ((Fr.refl _ _).drew) | exact H1.out.same ((Fr.refl _ _).drewN _))).mono ?_; rintro e w4 ⟨gg, rfl, l4, g4, hgg⟩; have H4 : Hid (LS w0 B w4 wb sv tv T kv mv sds K M q ∧ w4.heap[gg]? = some (.cells (tlC (x.s.ss.map t3)).toArray 61 (0, 0)) ∧ ((∀ y ∈ K, y.1 ≠ gg) ∧ (∀ y ∈ M, y.1 ≠ gg)) ∧ B ≤ gg) := ⟨l4, g4, H1.out.kfar hgg, Nat.le_trans H1.out.hB hgg⟩; obtain ⟨_, c4⟩ := HC.out w4 l4; clear l4 g4 hgg)
    | (go_at_call 33; refine (HR.out _ (by first | exact H4.out.1 | exact H4.out.1.same ((Fr.refl _ _).drew) | exact H4.out.1.same ((Fr.refl _ _).drewN _))).mono ?_; rintro e w5 ⟨v5, rfl, ow5, f5⟩; obtain ⟨va5, vc5, hv5⟩ := own_shape ow5; subst hv5; have H5 : Hid (LS w0 B w5 wb sv tv T kv mv sds K M q ∧ w5.heap[gg]? = some (.cells (tlC (x.s.ss.map t3)).toArray 61 (0, 0)) ∧ Row3 w5 (some ⟨gg, 0, none⟩) (x.s.ss.map t3) n) := H5r.out w4 w5 gg H4.out.1 H4.out.2.1 (by first | exact f5 | exact ((Fr.refl _ _).drew).trans f5 (by simp) | exact ((Fr.refl _ _).drewN _).trans f5 (by simp)); have HO5 : Hid (Row3 w5 va5 (x.s.ss.map t3) vc5) := row3_own HN.out.1 ow5; clear ow5 f5)
    | (go_at_call 32; refine (HE.out w5 (some ⟨gg, 0, none⟩) va5 n vc5 H5.out.2.2 HO5.out).mono ?_; rintro e w6 ⟨rfl, q6, hq6⟩; have H6 : Hid (LS w0 B w6 wb sv tv T kv mv sds K M q ∧ w6.heap[gg]? = some (.cells (tlC (x.s.ss.map t3)).toArray 61 (0, 0))) := (by rw [hq6]; exact ⟨H5.out.1.same ((Fr.refl _ _).drewN _), H5.out.2.1⟩); clear hq6)
    | (go_at_call 34; refine (HK.out _ gg (by first | exact H6.out.1 | exact H6.out.1.same ((Fr.refl _ _).drew) | exact H6.out.1.same ((Fr.refl _ _).drewN _)) H6.out.2 H4.out.2.2.1.1 H4.out.2.2.2).mono ?_; rintro e w7 ⟨rfl, l7⟩; have H7 : Hid (LP w0 B w7 wb sv D (q + 1)) := l7; clear l7))
  go_ret
  exact ⟨rfl, H7.out⟩

set_option maxRecDepth 100000 in
set_option maxHeartbeats 1600000 in
theorem store_marks (w0 : World) (B wb : Nat) (sv tv : Value) (T : List ByteArray) (kv mv : Value) (sds : List SdR) (K M : List (Nat × Nat × Nat)) (q : Nat) (i : Nat) (x : SdR) (at' a b : Int) (t : ByteArray) (lo : Option Addr) (nn c : Nat) (w : World) (h : LS w0 B w wb sv tv T kv mv sds K M q) (hx : sds[i]? = some x) (hq : q ≤ 2000000) :
    Calls Tryz.prog 16 #[.pointer (some ⟨wb, 0, none⟩), .pointer (some ⟨x.db, 0, none⟩), .agg #[.int .i64 11, .int .i64 at', .int .i64 a, .int .i64 b, .string t, .slice lo nn c]] w fun e w' => e = .returned (.bool true) ∧ LP w0 B w' wb sv (sds.map SdR.db) (q + 1) := by
  obtain ⟨db, hdb⟩ : ∃ db, x.db = db := ⟨_, rfl⟩
  obtain ⟨xb, hxb⟩ : ∃ xb, x.b = xb := ⟨_, rfl⟩
  obtain ⟨rb, hrb⟩ : ∃ rb, x.rb = rb := ⟨_, rfl⟩
  obtain ⟨n, hn⟩ : ∃ n, x.s.ms.length = n := ⟨_, rfl⟩
  obtain ⟨D, hD⟩ : ∃ D, sds.map SdR.db = D := ⟨_, rfl⟩
  obtain ⟨W1, hW1⟩ : ∃ W1, w.alloc (.cells #[.int .i64 11, .int .i64 at', .int .i64 a, .int .i64 b, .string t, .slice lo nn c] 41) = W1 := ⟨_, rfl⟩
  obtain ⟨ob, hob⟩ : ∃ ob, w.heap.size = ob := ⟨_, rfl⟩
  have o1 : W1.heap[ob]? = some (.cells #[.int .i64 11, .int .i64 at', .int .i64 a, .int .i64 b, .string t, .slice lo nn c] 41 (0, 0)) := by rw [← hW1, ← hob]; exact heap_alloc_new w _
  have h1 : LS w0 B W1 wb sv tv T kv mv sds K M q := h.same (by rw [← hW1]; exact (Fr.refl _ _).alloc _)
  have k0 : W1.cell? ⟨ob, 0, none⟩ = some (.int .i64 11) := by rw [cell_of o1]; rfl
  have HC : Hid (∀ W, LS w0 B W wb sv tv T kv mv sds K M q → W.cell? ⟨db, 0, none⟩ = some (.pointer (some ⟨xb, 0, none⟩)) ∧ W.cell? ⟨db, 1, none⟩ = some (.pointer (some ⟨rb, 0, none⟩))) := fun W hW => by
    have h8 := (hW.sd i x hx).1.blk
    rw [hdb, hxb, hrb] at h8
    refine ⟨?_, ?_⟩ <;> rw [cell_of h8] <;> rfl
  have m := (h.sd i x hx).2
  have hl12 := m.len
  have HA : Hid (∀ W, LS w0 B W wb sv tv T kv mv sds K M q → Calls Tryz.prog 46 #[.pointer (some ⟨xb, 0, none⟩)] W fun e w4 => ∃ gg, e = .returned (.slice (some ⟨gg, 0, none⟩) n n) ∧ LS w0 B w4 wb sv tv T kv mv sds K M q ∧ w4.heap[gg]? = some (.cells (i1C (x.s.ms.map Prod.fst)).toArray 3 (0, 0)) ∧ W.heap.size ≤ gg) := fun W hW => by
    rw [← hxb, ← hn]
    refine (marks_any B x.b x.s W (hW.sd i x hx).1.rep (by omega)).mono ?_
    rintro e w4 ⟨gg, rfl, hgg, hc, rp, f⟩
    exact ⟨gg, rfl, hW.still hx rp f, hc, hgg⟩
  have HR : Hid (∀ W, LS w0 B W wb sv tv T kv mv sds K M q → Calls Tryz.prog 48 #[.pointer (some ⟨rb, 0, none⟩)] W fun e w5 => ∃ v, e = .returned v ∧ w5.ownsRow W.heap.size 3 1 v n (i1C (x.s.ms.map Prod.fst)) ∧ Fr [] W w5) := fun W hW => by
    have h8 := rmarks_any B x.rb x.r W (hW.sd i x hx).1.rrep (by have := m.mlen; omega)
    rw [← m.ms, m.mlen, hrb, hn] at h8
    exact h8
  have HE : Hid (∀ W (a1 a2 : Option Addr) (p1 p2 : Nat), RowG W a1 (x.s.ms.map Prod.fst) p1 → RowG W a2 (x.s.ms.map Prod.fst) p2 → Calls Tryz.prog 47 #[.slice a1 n p1, .slice a2 n p2] W fun e w' => e = .returned (.bool true) ∧ ∃ q, w' = W.drewN q) := fun W a1 a2 p1 p2 r1 r2 => by
    have h8 := sameInts_any a1 a2 (x.s.ms.map Prod.fst) p1 p2 W r1 r2 (by rw [List.length_map]; omega)
    rw [List.length_map, hn] at h8
    exact h8
  have HN : Hid ((x.s.ms.map Prod.fst).length = n ∧ (i1C (x.s.ms.map Prod.fst)).length = n) := ⟨by rw [List.length_map, hn], by rw [i1C_len, List.length_map, hn]⟩
  have HK : Hid (∀ W gg, LS w0 B W wb sv tv T kv mv sds K M q → W.heap[gg]? = some (.cells (i1C (x.s.ms.map Prod.fst)).toArray 3 (0, 0)) → (∀ y ∈ M, y.1 ≠ gg) → B ≤ gg → Calls Tryz.prog 49 #[.pointer (some ⟨wb, 0, none⟩), .slice (some ⟨gg, 0, none⟩) n n] W fun e w' => e = .returned (.tuple #[]) ∧ LP w0 B w' wb sv D (q + 1)) := fun W gg hW hg hk hB => by
    have k4 := hW.k4
    have kl := hW.kl
    refine (keepMarks_any B wb sv tv T kv mv (sds.map SdR.db) K M gg n W hW.wm _ hg (by simpa using HN.out.2) (by omega) hk k4.2 (by omega) hB).mono ?_
    rintro e w' ⟨rfl, p⟩
    rw [← hD]
    exact ⟨rfl, hW.keepM hg hB p⟩
  have H1 : Hid (LS w0 B W1 wb sv tv T kv mv sds K M q) := h1
  obtain ⟨c0, _⟩ := HC.out W1 h1
  have H5r : Hid (∀ w4 w5 (gg : Nat), LS w0 B w4 wb sv tv T kv mv sds K M q → w4.heap[gg]? = some (.cells (i1C (x.s.ms.map Prod.fst)).toArray 3 (0, 0)) → Fr [] w4 w5 → LS w0 B w5 wb sv tv T kv mv sds K M q ∧ w5.heap[gg]? = some (.cells (i1C (x.s.ms.map Prod.fst)).toArray 3 (0, 0)) ∧ RowG w5 (some ⟨gg, 0, none⟩) (x.s.ms.map Prod.fst) n) := fun w4 w5 gg l4 g4 f5 => by
    have g5 : w5.heap[gg]? = some (.cells (i1C (x.s.ms.map Prod.fst)).toArray 3 (0, 0)) := by rw [f5.block gg (Array.getElem?_eq_some_iff.1 g4).1 (by simp)]; exact g4
    refine ⟨l4.same f5, g5, ?_⟩
    have h8 := row1_blk g5
    rw [HN.out.1] at h8
    exact h8
  rw [hdb, hD]
  clear h h1 hx o1 hdb hxb hrb hD m hl12 hn
  go_enter Tryz.func16, Tryz.ntmps16
  go_wp2_with (first
    | (go_at_call 46; refine (HA.out _ (by first | exact H1.out | exact H1.out.same ((Fr.refl _ _).drew) | exact H1.out.same ((Fr.refl _ _).drewN _))).mono ?_; rintro e w4 ⟨gg, rfl, l4, g4, hgg⟩; have H4 : Hid (LS w0 B w4 wb sv tv T kv mv sds K M q ∧ w4.heap[gg]? = some (.cells (i1C (x.s.ms.map Prod.fst)).toArray 3 (0, 0)) ∧ ((∀ y ∈ K, y.1 ≠ gg) ∧ (∀ y ∈ M, y.1 ≠ gg)) ∧ B ≤ gg) := ⟨l4, g4, H1.out.kfar hgg, Nat.le_trans H1.out.hB hgg⟩; obtain ⟨_, c4⟩ := HC.out w4 l4; clear l4 g4 hgg)
    | (go_at_call 48; refine (HR.out _ (by first | exact H4.out.1 | exact H4.out.1.same ((Fr.refl _ _).drew) | exact H4.out.1.same ((Fr.refl _ _).drewN _))).mono ?_; rintro e w5 ⟨v5, rfl, ow5, f5⟩; obtain ⟨va5, vc5, hv5⟩ := own_shape ow5; subst hv5; have H5 : Hid (LS w0 B w5 wb sv tv T kv mv sds K M q ∧ w5.heap[gg]? = some (.cells (i1C (x.s.ms.map Prod.fst)).toArray 3 (0, 0)) ∧ RowG w5 (some ⟨gg, 0, none⟩) (x.s.ms.map Prod.fst) n) := H5r.out w4 w5 gg H4.out.1 H4.out.2.1 (by first | exact f5 | exact ((Fr.refl _ _).drew).trans f5 (by simp) | exact ((Fr.refl _ _).drewN _).trans f5 (by simp)); have HO5 : Hid (RowG w5 va5 (x.s.ms.map Prod.fst) vc5) := row1_own HN.out.1 ow5; clear ow5 f5)
    | (go_at_call 47; refine (HE.out w5 (some ⟨gg, 0, none⟩) va5 n vc5 H5.out.2.2 HO5.out).mono ?_; rintro e w6 ⟨rfl, q6, hq6⟩; have H6 : Hid (LS w0 B w6 wb sv tv T kv mv sds K M q ∧ w6.heap[gg]? = some (.cells (i1C (x.s.ms.map Prod.fst)).toArray 3 (0, 0))) := (by rw [hq6]; exact ⟨H5.out.1.same ((Fr.refl _ _).drewN _), H5.out.2.1⟩); clear hq6)
    | (go_at_call 49; refine (HK.out _ gg (by first | exact H6.out.1 | exact H6.out.1.same ((Fr.refl _ _).drew) | exact H6.out.1.same ((Fr.refl _ _).drewN _)) H6.out.2 H4.out.2.2.1.2 H4.out.2.2.2).mono ?_; rintro e w7 ⟨rfl, l7⟩; have H7 : Hid (LP w0 B w7 wb sv D (q + 1)) := l7; clear l7))
  go_ret
  exact ⟨rfl, H7.out⟩
end Go.Proofs.YthdhegmlknpllaaGreat
