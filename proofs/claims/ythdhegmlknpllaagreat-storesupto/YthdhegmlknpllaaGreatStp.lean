/-
  The walk of the law's step (10), for the kinds of a store's own.
-/
import Derived.Test.YthdhegmlknpllaaGreatSu
import Derived.Test.YthdhegmlknpllaaGreatSv
namespace Go.Proofs.YthdhegmlknpllaaGreat
open Go.RowKit Go.Maps Go.MuLone

/-- What a step hands in: numbers that fit, a list that lies below. -/
structure OpOk (B : Nat) (w : World) (at' a b : Int) (lo : Option Addr) (zs : List Int) (c : Nat) : Prop where
  at' : In64 at'
  a : In64 a
  row : RowG w lo zs c
  nil : lo = none → c = 0
  low : ∀ k off, lo = some ⟨k, off, none⟩ → 0 < zs.length → k < B
  fit : ∀ i, i < zs.length → In64 (tm zs i)
  len : zs.length ≤ 1500000
theorem OpOk.same {B : Nat} {w w' : World} {at' a b : Int} {lo : Option Addr} {zs : List Int} {c : Nat} (h : OpOk B w at' a b lo zs c) (hf : Fr [] w w') : OpOk B w' at' a b lo zs c := ⟨h.at', h.a, h.row.fr hf (by simp), h.nil, h.low, h.fit, h.len⟩

theorem store_any (w0 : World) (B wb : Nat) (sv kv mv : Value) (sds : List SdR) (K M : List (Nat × Nat × Nat)) (q : Nat) (i : Nat) (x : SdR) (k at' a b : Int) (t : ByteArray) (lo : Option Addr) (zs : List Int) (c : Nat) (w : World) (h : LS w0 B w wb sv kv mv sds K M q) (hx : sds[i]? = some x) (hk : 1 ≤ k ∧ k ≤ 11) (ho : OpOk B w at' a b lo zs c) (hq : q ≤ 2000000) :
    Calls Tryz.prog 16 #[.pointer (some ⟨wb, 0, none⟩), .pointer (some ⟨x.db, 0, none⟩), .agg #[.int .i64 k, .int .i64 at', .int .i64 a, .int .i64 b, .string t, .slice lo zs.length c]] w fun e w' => e = .returned (.bool true) ∧ LP w0 B w' wb sv (sds.map SdR.db) (q + 1) := by
  rcases (by omega : k = 1 ∨ k = 2 ∨ k = 3 ∨ k = 4 ∨ k = 5 ∨ k = 6 ∨ k = 7 ∨ k = 8 ∨ k = 9 ∨ k = 10 ∨ k = 11) with rfl | rfl | rfl | rfl | rfl | rfl | rfl | rfl | rfl | rfl | rfl
  · exact store_write w0 B wb sv kv mv sds K M q i x at' a b t lo _ c w h hx hq
  · exact store_read w0 B wb sv kv mv sds K M q i x at' a b t lo _ c w h hx
  · exact store_snap w0 B wb sv kv mv sds K M q i x at' a b t lo _ c w h hx hq
  · exact store_snaps w0 B wb sv kv mv sds K M q i x at' a b t lo _ c w h hx hq
  · exact store_at w0 B wb sv kv mv sds K M q i x at' a b t lo _ c w h hx ho.a
  · exact store_hold w0 B wb sv kv mv sds K M q i x at' a b t lo _ c w h hx hq
  · exact store_release w0 B wb sv kv mv sds K M q i x at' a b t lo _ c w h hx hq
  · exact store_destroy w0 B wb sv kv mv sds K M q i x at' a b t lo zs c w h hx ho.row ho.nil ho.low ho.fit ho.len hq
  · exact store_mark w0 B wb sv kv mv sds K M q i x at' a b t lo _ c w h hx hq
  · exact store_unmark w0 B wb sv kv mv sds K M q i x at' a b t lo _ c w h hx hq
  · exact store_marks w0 B wb sv kv mv sds K M q i x at' a b t lo _ c w h hx hq

set_option maxRecDepth 100000 in
set_option maxHeartbeats 1600000 in
theorem step_any (w0 : World) (B wb : Nat) (sv kv mv : Value) (sds : List SdR) (K M : List (Nat × Nat × Nat)) (q : Nat) (k at' a b : Int) (t : ByteArray) (lo : Option Addr) (zs : List Int) (c : Nat) (w : World) (h : LS w0 B w wb sv kv mv sds K M q) (h3 : sds.length = 3) (hk : k ≤ 11) (ho : OpOk B w at' a b lo zs c) (hq : q ≤ 2000000) :
    Calls Tryz.prog 10 #[.pointer (some ⟨wb, 0, none⟩), .agg #[.int .i64 k, .int .i64 at', .int .i64 a, .int .i64 b, .string t, .slice lo zs.length c], .bool false] w fun e w' => e = .returned (.bool true) ∧ LP w0 B w' wb sv (sds.map SdR.db) (q + 1) := by
  have hp := pk_lt at' 3 (by omega)
  obtain ⟨i, hi⟩ : ∃ i : Nat, pk at' 3 = (i : Int) := ⟨(pk at' 3).toNat, by omega⟩
  rw [hi] at hp
  have hi3 : i < 3 := by omega
  have hil : i < sds.length := by omega
  obtain ⟨x, hx⟩ : ∃ x, sds[i]? = some x := ⟨_, List.getElem?_eq_getElem hil⟩
  have HPk : Hid (∀ W, Calls Tryz.prog 8 #[.int .i64 at', .int .i64 3] W fun e w' => e = .returned (.int .i64 i) ∧ w' = W) := fun W => by rw [← hi]; exact pick_any at' 3 W ho.at' (by omega) (by omega)
  obtain ⟨db, hdb⟩ : ∃ db, x.db = db := ⟨_, rfl⟩
  obtain ⟨n, hn⟩ : ∃ n, zs.length = n := ⟨_, rfl⟩
  obtain ⟨D, hD⟩ : ∃ D, sds.map SdR.db = D := ⟨_, rfl⟩
  obtain ⟨W1, hW1⟩ : ∃ W1, w.alloc (.cells #[.int .i64 k, .int .i64 at', .int .i64 a, .int .i64 b, .string t, .slice lo n c] 41) = W1 := ⟨_, rfl⟩
  obtain ⟨ob, hob⟩ : ∃ ob, w.heap.size = ob := ⟨_, rfl⟩
  have o1 : W1.heap[ob]? = some (.cells #[.int .i64 k, .int .i64 at', .int .i64 a, .int .i64 b, .string t, .slice lo n c] 41 (0, 0)) := by rw [← hW1, ← hob]; exact heap_alloc_new w _
  have f1 : Fr [] w W1 := by rw [← hW1]; exact (Fr.refl _ _).alloc _
  have h1 := h.same f1
  obtain ⟨sa, sc, hsv⟩ := own_shape h1.wm.so
  have hso := h1.wm.so
  have hDl : (sds.map SdR.db).length = 3 := by rw [List.length_map]; exact h3
  rw [hDl] at hsv hso
  rw [hsv] at hso
  obtain ⟨sg, hsg, hscap, hcc⟩ := own_addr hso (by omega)
  subst hsg
  have s0 : W1.cell? ⟨wb, 0, none⟩ = some (.slice (some ⟨sg, 0, none⟩) 3 sc) := by rw [← hsv]; exact h1.wm.cells.1
  have s1 : W1.cell? ⟨sg, i, none⟩ = some (.pointer (some ⟨db, 0, none⟩)) := by
    rw [hcc i (by omega), ← hdb]
    rw [List.getElem?_map, List.getElem?_map, hx]
    rfl
  have k0 : W1.cell? ⟨ob, 0, none⟩ = some (.int .i64 k) := by rw [cell_of o1]; rfl
  have k1 : W1.cell? ⟨ob, 1, none⟩ = some (.int .i64 at') := by rw [cell_of o1]; rfl
  have k2 : W1.cell? ⟨ob, 2, none⟩ = some (.int .i64 a) := by rw [cell_of o1]; rfl
  have k3 : W1.cell? ⟨ob, 3, none⟩ = some (.int .i64 b) := by rw [cell_of o1]; rfl
  have k4 : W1.cell? ⟨ob, 4, none⟩ = some (.string t) := by rw [cell_of o1]; rfl
  have k5 : W1.cell? ⟨ob, 5, none⟩ = some (.slice lo n c) := by rw [cell_of o1]; rfl
  have HS : Hid (∀ W, Fr [] W1 W → (1 ≤ k ∧ k ≤ 11) → Calls Tryz.prog 16 #[.pointer (some ⟨wb, 0, none⟩), .pointer (some ⟨db, 0, none⟩), .agg #[.int .i64 k, .int .i64 at', .int .i64 a, .int .i64 b, .string t, .slice lo n c]] W fun e w' => e = .returned (.bool true) ∧ LP w0 B w' wb sv D (q + 1)) := fun W hW hk => by
    have h8 := store_any w0 B wb sv kv mv sds K M q i x k at' a b t lo zs c W (h1.same hW) hx hk ((ho.same f1).same hW) hq
    rw [hdb, hn, hD] at h8
    exact h8
  have HU : Hid (∀ W, Fr [] W1 W → LP w0 B W wb sv D (q + 1)) := fun W hW => ⟨kv, mv, sds, K, M, (h1.same hW).up, hD⟩
  rw [hD, hn]
  clear h h1 hx o1 f1 ho hdb hD hn hi hDl hsv hso hcc hil h3
  by_cases hk1 : 1 ≤ k
  · have g1 : decide (k ≥ 1) = true := by simpa using hk1
    have g2 : decide (k ≤ 11) = true := by simpa using hk
    go_enter Tryz.func10, Tryz.ntmps10
    go_wp2
    go_region_held3 (fun w' => w'.cell? ⟨wb, 0, none⟩ = some (.slice (some ⟨sg, 0, none⟩) 3 sc) ∧ w'.cell? ⟨ob, 1, none⟩ = some (.int .i64 at') ∧ w'.cell? ⟨sg, i, none⟩ = some (.pointer (some ⟨db, 0, none⟩)))
      (first
        | go_keep)
      (first
        | (go_at_call 8; refine (HPk.out _).mono ?_; rintro e w' ⟨rfl, hw'⟩; have hw'' := hw'.symm; subst hw''))
    all_goals
      have j0 : W1.drew.cell? ⟨ob, 0, none⟩ = some (.int .i64 k) := k0
      have j1 : W1.drew.cell? ⟨ob, 1, none⟩ = some (.int .i64 at') := k1
      have j2 : W1.drew.cell? ⟨ob, 2, none⟩ = some (.int .i64 a) := k2
      have j3 : W1.drew.cell? ⟨ob, 3, none⟩ = some (.int .i64 b) := k3
      have j4 : W1.drew.cell? ⟨ob, 4, none⟩ = some (.string t) := k4
      have j5 : W1.drew.cell? ⟨ob, 5, none⟩ = some (.slice lo n c) := k5
      go_wp2_with (first
        | (go_at_call 16; refine (HS.out _ (by first | exact (Fr.refl _ _).drew | exact ((Fr.refl _ _).drew).drew | exact ((Fr.refl _ _).drew).drewN _) ⟨hk1, hk⟩).mono ?_; rintro e w5 ⟨rfl, l5⟩; have H5 : Hid (LP w0 B w5 wb sv D (q + 1)) := l5; clear l5))
      go_ret
      exact ⟨rfl, H5.out⟩
  · have g1 : decide (k ≥ 1) = false := by simpa using hk1
    have g3 : (k == 12) = false := by simp; omega
    have g4 : (k == 13) = false := by simp; omega
    have g5 : (k == 14) = false := by simp; omega
    have g6 : (k == 15) = false := by simp; omega
    go_enter Tryz.func10, Tryz.ntmps10
    go_wp2
    go_region_held3 (fun w' => w'.cell? ⟨wb, 0, none⟩ = some (.slice (some ⟨sg, 0, none⟩) 3 sc) ∧ w'.cell? ⟨ob, 1, none⟩ = some (.int .i64 at') ∧ w'.cell? ⟨sg, i, none⟩ = some (.pointer (some ⟨db, 0, none⟩)))
      (first
        | go_keep)
      (first
        | (go_at_call 8; refine (HPk.out _).mono ?_; rintro e w' ⟨rfl, hw'⟩; have hw'' := hw'.symm; subst hw''))
    all_goals
      have j0 : W1.drew.cell? ⟨ob, 0, none⟩ = some (.int .i64 k) := k0
      have j1 : W1.drew.cell? ⟨ob, 1, none⟩ = some (.int .i64 at') := k1
      have j2 : W1.drew.cell? ⟨ob, 2, none⟩ = some (.int .i64 a) := k2
      have j3 : W1.drew.cell? ⟨ob, 3, none⟩ = some (.int .i64 b) := k3
      have j4 : W1.drew.cell? ⟨ob, 4, none⟩ = some (.string t) := k4
      have j5 : W1.drew.cell? ⟨ob, 5, none⟩ = some (.slice lo n c) := k5
      go_wp2
      go_ret
      exact ⟨rfl, HU.out _ (by first | exact (Fr.refl _ _).drew | exact ((Fr.refl _ _).drew).drew | exact ((Fr.refl _ _).drew).drewN _)⟩
end Go.Proofs.YthdhegmlknpllaaGreat
