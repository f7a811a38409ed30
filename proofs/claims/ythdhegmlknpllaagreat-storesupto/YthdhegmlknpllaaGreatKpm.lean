/-
  The walk of the law's keepMarks (49).
-/
import Derived.Test.YthdhegmlknpllaaGreatWm
import Derived.Maps.AppendAt
namespace Go.Proofs.YthdhegmlknpllaaGreat
open Go.RowKit Go.Maps Go.MuLone

theorem info39 : (Tryz.prog.info? 39).map (fun i => (i.zero, i.size, i.bytes)) = some (some (.slice none 0 0), 1, 24) := by kernel_rfl
/-- A list that grows: all its cells say z. -/
def GI (w : World) (g c ct : Nat) (z : Int) : Prop := ∃ cur, w.heap[g]? = some (.cells cur 3 (0, 0)) ∧ cur.size = ct ∧ c ≤ ct ∧ ∀ j, j < c → cur[j]? = some (.int .i64 z)
theorem GI.kr {w : World} {g c ct : Nat} {z : Int} (h : GI w g c ct z) {n : Nat} (hn : n ≤ c) : KR 3 w g n (m1 z) := by
  obtain ⟨cur, h1, h2, h3, h4⟩ := h
  refine ⟨cur, h1, by simp [m1]; omega, fun j hj i hi => ?_⟩
  have hi0 : i = 0 := by simpa [m1] using hi
  subst hi0
  simp only [m1, List.length_singleton, Nat.mul_one, Nat.add_zero]
  rw [h4 j (by omega)]
  rfl
/-- While a list of marks is kept: so many are kept; the list has grown to c. -/
structure KJ (B : Nat) (w wr : World) (wb gg : Nat) (sv kv mv : Value) (D : List Nat) (K M : List (Nat × Nat × Nat)) (z : Int) (a c gt ct : Nat) (mv' : Value) (N : List (Nat × Nat × Nat)) : Prop where
  nl : N.length = a
  wm : WM B wr wb sv kv mv' D K (M ++ N)
  nn : ∀ x ∈ N, (x.1 = gg ∨ w.heap.size ≤ x.1) ∧ x.2.1 ≤ c
  fr : Fr (wb :: gg :: mv.ownBlock.toList) w wr
  ob : ∀ k, mv'.ownBlock = some k → mv.ownBlock = some k ∨ w.heap.size ≤ k
  go : gt = gg ∨ w.heap.size ≤ gt
  gi : GI wr gt c ct z
  bg : B ≤ gt

section
variable {B : Nat} {w wr : World} {wb gg : Nat} {sv kv mv mv' : Value} {D : List Nat} {K M N : List (Nat × Nat × Nat)} {z : Int} {a c gt ct : Nat}
theorem KJ.same (h : KJ B w wr wb gg sv kv mv D K M z a c gt ct mv' N) {w2 : World} (hf : Fr [] wr w2) : KJ B w w2 wb gg sv kv mv D K M z a c gt ct mv' N :=
  ⟨h.nl, h.wm.same hf, h.nn, h.fr.trans hf (by simp), h.ob, h.go, by
    obtain ⟨cur, h1, h2⟩ := h.gi
    exact ⟨cur, by rw [hf.block _ (Array.getElem?_eq_some_iff.1 h1).1 (by simp)]; exact h1, h2⟩, h.bg⟩
/-- It is kept. -/
theorem KJ.keep (h : KJ B w wr wb gg sv kv mv D K M z a c gt ct mv' N) (hz : zOf (M.length + a) = z) {w9 : World} {mv9 : Value} (hg : wr.grownBy w9 mv'.ownBlock) (ho : w9.ownsRow B 39 1 mv9 (M.length + a + 1) (kC (M ++ N) ++ [.slice (some ⟨gt, 0, none⟩) c ct])) (hat : mv9.ownBlock = mv'.ownBlock ∨ mv9.ownBlock = some wr.heap.size) :
    KJ B w (w9.setCell ⟨wb, 3, none⟩ mv9) wb gg sv kv mv D K M z (a + 1) c gt ct mv9 (N ++ [(gt, c, ct)]) := by
  have hlen : (M ++ N).length = M.length + a := by rw [List.length_append, h.nl]
  have hf : Fr (wb :: mv'.ownBlock.toList) wr (w9.setCell ⟨wb, 3, none⟩ mv9) := ((Fr.refl _ _).grown hg (fun k hk => Or.inl (by simp [hk]))).setCell _ (Or.inl (by simp))
  have hmt : ∀ j, mv'.ownBlock = some j → ∃ cur, wr.heap[j]? = some (.cells cur 39 (0, 0)) := fun j hj => (own_tag h.wm.mo hj).2
  obtain ⟨cur, g1, g2⟩ := h.gi
  refine ⟨by simp [h.nl], ?_, fun x hx => ?_, ?_, fun k hk => ?_, h.go, ?_, h.bg⟩
  · have W9 := h.wm.addM (x := (gt, c, ct)) hg (by rw [hlen]; exact ho) ⟨h.bg, by rw [hlen, hz]; exact h.gi.kr (Nat.le_refl _)⟩
    rw [List.append_assoc] at W9
    exact W9
  · rcases List.mem_append.1 hx with hx | hx
    · exact h.nn x hx
    · have e : x = (gt, c, ct) := by simpa using hx
      subst e
      exact ⟨h.go, Nat.le_refl _⟩
  · refine h.fr.trans hf (fun k hk => ?_)
    rcases List.mem_cons.1 hk with rfl | hk
    · exact Or.inl (by simp)
    · simp at hk
      rcases h.ob k hk with h1 | h1
      · exact Or.inl (by simp [h1])
      · exact Or.inr h1
  · rcases hat with e | e
    · exact h.ob k (by rw [← e]; exact hk)
    · right
      rw [e] at hk
      have := h.fr.size
      simp at hk
      omega
  · refine ⟨cur, ?_, g2⟩
    rw [hf.block _ (Array.getElem?_eq_some_iff.1 g1).1 (fun hm => ?_)]
    · exact g1
    · rcases List.mem_cons.1 hm with e | hm
      · rw [e, h.wm.blk] at g1
        simp at g1
      · simp at hm
        obtain ⟨cur', e'⟩ := hmt gt hm
        rw [e'] at g1
        simp at g1
/-- It grows where there is room. -/
theorem KJ.room (h : KJ B w wr wb gg sv kv mv D K M z a c gt ct mv' N) (hz : ∀ u, u < 4 → zOf (M.length + u) = z) (ha : a ≤ 4) (hM : ∀ x ∈ M, x.1 ≠ gg ∧ x.1 < w.heap.size) (hc : c + 1 ≤ ct) : KJ B w (wr.setCells gt c [.int .i64 z]) wb gg sv kv mv D K M z a (c + 1) gt ct mv' N := by
  obtain ⟨cur, g1, g2, g3, g4⟩ := h.gi
  obtain ⟨cur', k1, k2, k3⟩ := setCells_heap [.int .i64 z] c wr cur g1
  have G : GI (wr.setCells gt c [.int .i64 z]) gt (c + 1) ct z := ⟨cur', k1, by omega, hc, fun j hj => by
    rw [k3 j (by omega)]
    by_cases e : j = c
    · subst e
      rw [if_pos (by simp)]
      simp
    · rw [if_neg (by simp; omega)]
      exact g4 j (by omega)⟩
  have hf : Fr [gt] wr (wr.setCells gt c [.int .i64 z]) := (Fr.refl _ _).setCell _ (Or.inl (by simp))
  refine ⟨h.nl, h.wm.int g1 hf (fun i x hx e => ?_), fun x hx => ⟨(h.nn x hx).1, by have := (h.nn x hx).2; omega⟩, h.fr.trans hf (fun k hk => ?_), h.ob, h.go, G, h.bg⟩
  · rcases Nat.lt_or_ge i M.length with hi | hi
    · exfalso
      rw [List.getElem?_append_left hi] at hx
      have := hM x (List.mem_of_getElem? hx)
      rcases h.go with e2 | e2
      · exact this.1 (e.trans e2)
      · omega
    · rw [List.getElem?_append_right hi] at hx
      have hn := (List.getElem?_eq_some_iff.1 hx).1
      have hz' := hz (i - M.length) (by have := h.nl; omega)
      rw [show M.length + (i - M.length) = i by omega] at hz'
      rw [hz']
      exact G.kr (by have := (h.nn x (List.mem_of_getElem? hx)).2; omega)
  · have : k = gt := by simpa using hk
    subst this
    rcases h.go with e2 | e2
    · exact Or.inl (by simp [e2])
    · exact Or.inr e2
theorem own_gi {base g c cap : Nat} {xs : List Value} (h : wr.ownsRow base 3 1 (.slice (some ⟨g, 0, none⟩) c cap) c xs) (hx : ∀ j, j < c → xs[j]? = some (.int .i64 z)) : base ≤ g ∧ GI wr g c cap z := by
  rcases h.2 with ⟨h1, _⟩ | ⟨g', cap', cur, h1, hb, hg, hc, hm, hs, ht⟩
  · simp at h1
  · simp only [Value.slice.injEq, Option.some.injEq, Addr.mk.injEq, and_true, true_and] at h1
    obtain ⟨rfl, rfl⟩ := h1
    refine ⟨hb, cur, hg, by omega, hc, fun j hj => ?_⟩
    rw [← hx j hj, ← ht, List.getElem?_take_of_lt (by omega), Array.getElem?_toList]
theorem KJ.olds (h : KJ B w wr wb gg sv kv mv D K M z a c gt ct mv' N) : ∀ (j : Nat) (u : Value), (List.replicate c (Value.int .i64 z))[j]? = some u → wr.cell? ⟨gt, 0 + j, none⟩ = some u := fun j u hu => by
  obtain ⟨cur, g1, g2, g3, g4⟩ := h.gi
  rw [List.getElem?_replicate] at hu
  by_cases e : j < c
  · rw [if_pos e] at hu
    rw [Nat.zero_add, cell_of g1, g4 j e]
    exact hu
  · rw [if_neg e] at hu
    simp at hu
theorem KJ.spare (h : KJ B w wr wb gg sv kv mv D K M z a c gt ct mv' N) (hr : c + 1 ≤ ct) : ∀ j, j < [Value.int .i64 z].length → (wr.cell? ⟨gt, 0 + c * 1 + j, none⟩).isSome = true ∧ wr.frozen? ⟨gt, 0 + c * 1 + j, none⟩ = false := fun j hj => by
  obtain ⟨cur, g1, g2, g3, g4⟩ := h.gi
  have hj0 : j = 0 := by simpa using hj
  subst hj0
  refine ⟨?_, froz_of g1 _⟩
  rw [cell_of g1, Array.getElem?_eq_getElem (by omega)]
  rfl
/-- It grows into a new place. -/
theorem KJ.new (h : KJ B w wr wb gg sv kv mv D K M z a c gt ct mv' N) {w' : World} {g' cap' : Nat} {xs : List Value} (hB : B ≤ wr.heap.size) (hg : wr.grownBy w' none) (ho : w'.ownsRow wr.heap.size 3 1 (.slice (some ⟨g', 0, none⟩) (c + 1) cap') (c + 1) xs) (hx : ∀ j, j < c + 1 → xs[j]? = some (.int .i64 z)) : KJ B w w' wb gg sv kv mv D K M z a (c + 1) g' cap' mv' N := by
  have hf : Fr [] wr w' := (Fr.refl _ _).grown hg (fun k hk => by simp at hk)
  have h2 := h.same hf
  obtain ⟨hb, G⟩ := own_gi ho hx
  have := h.fr.size
  exact ⟨h2.nl, h2.wm, fun x hx => ⟨(h2.nn x hx).1, by have := (h2.nn x hx).2; omega⟩, h2.fr, h2.ob, Or.inr (by omega), G, by omega⟩
end
/-- What keepMarks leaves. -/
def KmPost (B : Nat) (w w' : World) (wb gg : Nat) (sv kv mv : Value) (D : List Nat) (K M : List (Nat × Nat × Nat)) : Prop := ∃ mv' M', M'.length = M.length + 4 ∧ WM B w' wb sv kv mv' D K M' ∧ Fr (wb :: gg :: mv.ownBlock.toList) w w' ∧ ∀ x ∈ M', x ∈ M ∨ x.2.1 ≤ 16

set_option maxRecDepth 100000 in
set_option maxHeartbeats 3200000 in
theorem keepMarks_any (B wb : Nat) (sv kv mv : Value) (D : List Nat) (K M : List (Nat × Nat × Nat)) (gg n : Nat) (w : World) (h : WM B w wb sv kv mv D K M) (cur0 : Array Value) (hg : w.heap[gg]? = some (.cells cur0 3 (0, 0))) (hs : cur0.size = n) (hn : n ≤ 12) (hM : ∀ x ∈ M, x.1 ≠ gg) (hM4 : M.length % 4 = 0) (hMl : M.length ≤ 8000000) (hBg : B ≤ gg) :
    Calls Tryz.prog 49 #[.pointer (some ⟨wb, 0, none⟩), .slice (some ⟨gg, 0, none⟩) n n] w fun e w' => e = .returned (.tuple #[]) ∧ KmPost B w w' wb gg sv kv mv D K M := by
  obtain ⟨i0, hi, hz0, hz1, hz2⟩ := info_parts info39
  obtain ⟨i1, hi1, hy0, hy1, hy2⟩ := info_parts info3
  obtain ⟨L, hL⟩ : ∃ L, M.length = L := ⟨_, rfl⟩
  obtain ⟨z, hz⟩ : ∃ z : Int, -1 - (L : Int) = z := ⟨_, rfl⟩
  have hzw : IntKind.i64.wrap (-1 - (L : Int)) = z := by rw [hz.symm]; exact wrap_fit ⟨by omega, by omega⟩
  have HZ : Hid (∀ u, u < 4 → zOf (M.length + u) = z) := fun u hu => by unfold zOf; omega
  have HM : Hid (∀ x ∈ M, x.1 ≠ gg ∧ x.1 < w.heap.size) := fun x hx => by
    obtain ⟨i, hi, e⟩ := List.getElem_of_mem hx
    exact ⟨hM x hx, (h.mi i x (by rw [List.getElem?_eq_getElem hi, e])).2.lt⟩
  have HW : Hid (WM B w wb sv kv mv D K M ∧ w.heap[gg]? = some (.cells cur0 3 (0, 0)) ∧ cur0.size = n ∧ M.length = L) := ⟨h, hg, hs, hL⟩
  have HBw : Hid (B ≤ w.heap.size) := by
    have h1 := h.hw
    have h2 := (Array.getElem?_eq_some_iff.1 h.blk).1
    exact (by omega : B ≤ w.heap.size)
  obtain ⟨ma0, mc0, hmv0⟩ := own_shape h.mo
  have c3 : w.cell? ⟨wb, 3, none⟩ = some (.slice ma0 L mc0) := by rw [← hL, ← hmv0]; exact h.cells.2.2.1
  have hLz : (L : Int) ≤ 8000000 := by omega
  clear h hg hs hM hM4 hMl hmv0 hL hz
  go_enter Tryz.func49, Tryz.ntmps49
  go_wp2
  go_loopw [5] (fun i wr => ∃ k : Nat, k ≤ n ∧ i = .int .i64 k ∧ Hid (∃ cur : Array Value, wr.heap[gg]? = some (.cells cur 3 (0, 0)) ∧ cur.size = n ∧ (∀ j, j < k → cur[j]? = some (.int .i64 z)) ∧ Fr [gg] w wr)) (fun i _ => n - (intOf i).toNat)
  case atStart => exact ⟨0, Nat.zero_le _, rfl, cur0, HW.out.2.1, HW.out.2.2.1, fun j hj => by omega, Fr.refl _ _⟩
  case round =>
    obtain ⟨k, hk, rfl, HK⟩ := hrel
    obtain ⟨W3, hW3⟩ : ∃ W3, W3 = wr := ⟨_, rfl⟩
    subst hW3
    obtain ⟨cur, k1, k2, k3, k4⟩ := HK.out
    by_cases hlt : k < n
    · have hltz : (k : Int) < (n : Int) := by omega
      have k0 : (0 : Int) ≤ (k : Int) := by omega
      obtain ⟨v0, d1⟩ : ∃ v0, W3.cell? ⟨gg, k, none⟩ = some v0 := ⟨cur[k], by rw [cell_of k1, Array.getElem?_eq_getElem (by omega)]⟩
      have d2 : W3.frozen? ⟨gg, k, none⟩ = false := froz_of k1 _
      have HN : Hid (∃ cur' : Array Value, (W3.setCell ⟨gg, k, none⟩ (.int .i64 z)).heap[gg]? = some (.cells cur' 3 (0, 0)) ∧ cur'.size = n ∧ (∀ j, j < k + 1 → cur'[j]? = some (.int .i64 z)) ∧ Fr [gg] w (W3.setCell ⟨gg, k, none⟩ (.int .i64 z))) := by
        refine ⟨_, heap_setCell_same W3 gg k _ _ _ k1, by simpa using k2, fun j hj => ?_, k4.setCell _ (Or.inl (by simp))⟩
        by_cases e : j = k
        · subst e
          simp [k2, hlt]
        · rw [Array.getElem?_setIfInBounds_ne (by omega)]
          exact k3 j (by omega)
      clear k1 k2 k3 k4 HK c3
      go_wp2
      go_roundw
      case rel => exact ⟨k + 1, by omega, by go_num, HN⟩
      case measure => simp [intOf]; omega
    · have hkk : k = n := by omega
      subst hkk
      have HJ0 : Hid (KJ B w W3 wb gg sv kv mv D K M z 0 k gg k mv []) := by
        refine ⟨rfl, ?_, by simp, k4.mono (by simp), fun j hj => Or.inl hj, Or.inl rfl, ⟨cur, k1, k2, Nat.le_refl _, k3⟩, hBg⟩
        rw [List.append_nil]
        exact HW.out.1.int HW.out.2.1 k4 (fun i x hx e => absurd e (HM.out x (List.mem_of_getElem? hx)).1)
      clear k1 k2 k3 k4 HK c3
      go_wp2
      go_loopw [6, 7] (fun g i wr => ∃ (t gt ct : Nat) (mv' : Value) (N : List (Nat × Nat × Nat)), t ≤ 4 ∧ i = .int .i64 t ∧ g = .slice (some ⟨gt, 0, none⟩) (k + t) ct ∧ Hid (KJ B w wr wb gg sv kv mv D K M z t (k + t) gt ct mv' N)) (fun _ i _ => 4 - (intOf i).toNat)
      case atStart => exact ⟨0, gg, k, mv, [], by omega, rfl, rfl, HJ0⟩
      case round =>
        obtain ⟨t, gt, ct, mv', N, ht, rfl, rfl, HT⟩ := hrel
        obtain ⟨W4, hW4⟩ : ∃ W4, W4 = wr := ⟨_, rfl⟩
        subst hW4
        clear HJ0
        obtain ⟨n, hnk⟩ : ∃ n, k = n := ⟨_, rfl⟩
        subst hnk
        by_cases hlt4 : t < 4
        · have hltz : (t : Int) < 4 := by omega
          obtain ⟨ma, mc, hmv⟩ := own_shape HT.out.wm.mo
          have hlen : (M ++ N).length = L + t := by rw [List.length_append, HT.out.nl, HW.out.2.2.2]
          rw [hlen] at hmv
          have HRo : Hid (W4.ownsRow B 39 1 (.slice ma (L + t) mc) (L + t) (kC (M ++ N))) := by have h8 := HT.out.wm.mo; rw [hlen, hmv] at h8; exact h8
          have e3 : W4.cell? ⟨wb, 3, none⟩ = some (.slice ma (L + t) mc) := by rw [← hmv]; exact HT.out.wm.cells.2.2.1
          have lB : B ≤ W4.heap.size := by have h8 := HBw.out; have h9 := HT.out.fr.size; omega
          have HC9 : Hid (∀ w9, (W4.alloc (.cells #[.slice (some ⟨gt, 0, none⟩) (k + t) ct] 39)).grownBy w9 (Value.slice ma (L + t) mc).ownBlock → w9.cell? ⟨wb, 3, none⟩ = some (.slice ma (L + t) mc) ∧ w9.frozen? ⟨wb, 3, none⟩ = false) := fun w9 hg9 => by
            have W5 := HT.out.wm.same ((Fr.refl [] W4).alloc (.cells #[.slice (some ⟨gt, 0, none⟩) (k + t) ct] 39))
            have lwb := (Array.getElem?_eq_some_iff.1 W5.blk).1
            have hne : (Value.slice ma (L + t) mc).ownBlock ≠ some wb := fun e => by
              obtain ⟨_, cur, h4⟩ := own_tag HRo.out e
              rw [HT.out.wm.blk] at h4
              simp at h4
            have h8 := W5.cells
            rw [hmv] at h8
            exact ⟨(hg9.cell_far ⟨wb, 3, none⟩ lwb (Ne.symm hne)).trans h8.2.2.1, (hg9.frozen_far ⟨wb, 3, none⟩ lwb (Ne.symm hne)).trans h8.2.2.2.2⟩
          have HKeep : Hid (∀ w9 v9, (W4.alloc (.cells #[.slice (some ⟨gt, 0, none⟩) (k + t) ct] 39)).grownBy w9 (Value.slice ma (L + t) mc).ownBlock → w9.ownsRow B 39 1 v9 (L + t + 1) (kC (M ++ N) ++ [.slice (some ⟨gt, 0, none⟩) (k + t) ct]) → (v9.ownBlock = (Value.slice ma (L + t) mc).ownBlock ∨ v9.ownBlock = some (W4.alloc (.cells #[.slice (some ⟨gt, 0, none⟩) (k + t) ct] 39)).heap.size) → KJ B w (w9.setCell ⟨wb, 3, none⟩ v9) wb gg sv kv mv D K M z (t + 1) (k + t) gt ct v9 (N ++ [(gt, k + t, ct)])) := fun w9 v9 h1 h2 h3 => by
            have h8 := HT.out.same ((Fr.refl [] W4).alloc (.cells #[.slice (some ⟨gt, 0, none⟩) (k + t) ct] 39))
            rw [hmv] at h8
            exact h8.keep (HZ.out t hlt4) h1 (by rw [HW.out.2.2.2]; exact h2) h3
          clear hmv hlen
          by_cases hroom : k + t + 1 ≤ ct
          · go_wp2_with (first
              | (at_builtin; refine wpList_append_own_at _ rfl _ _ 30 rfl B 39 i0 _ 1 24 Tryz.underlying30 hi hz0 hz1 hz2 rfl (by omega) (.slice ma (L + t) mc) (L + t) (kC (M ++ N)) rfl (HRo.out.alloc _) ⟨W4.heap.size, 0, none⟩ 1 1 [.slice (some ⟨gt, 0, none⟩) (k + t) ct] rfl rfl (World.news_of_block (cs := #[.slice (some ⟨gt, 0, none⟩) (k + t) ct]) (t := 39) (fr := (0, 0)) (heap_alloc_new W4 _)) (by simp [Value.oneCell']) (by unfold maxLen; omega) (by omega) (by simp; omega) ?_; intro v9 w9 hown9 hgrow9 _ hat9; obtain ⟨va9, vc9, hv9⟩ := own_shape hown9; subst hv9; obtain ⟨c93, z93⟩ := HC9.out w9 hgrow9; have H9 : Hid (KJ B w ((w9.setCell ⟨wb, 3, none⟩ (.slice va9 (L + t + 1) vc9)).alloc (.cells #[.int .i64 z] 3)) wb gg sv kv mv D K M z (t + 1) (k + t) gt ct (.slice va9 (L + t + 1) vc9) (N ++ [(gt, k + t, ct)])) := (HKeep.out w9 _ hgrow9 hown9 hat9).same ((Fr.refl _ _).alloc _); clear hown9 hgrow9 hat9)
              | (at_builtin; refine wpList_append_arg ((w9.setCell ⟨wb, 3, none⟩ (.slice va9 (L + t + 1) vc9)).alloc (.cells #[.int .i64 z] 3)) rfl _ _ 39 rfl 3 i1 _ 1 8 Tryz.underlying39 hi1 hy0 hy1 hy2 rfl (by omega) gt 0 (k + t) ct (List.replicate (k + t) (.int .i64 z)) rfl (by simp) H9.out.olds ⟨w9.heap.size, 0, none⟩ 1 1 [.int .i64 z] rfl rfl (World.news_of_block (cs := #[.int .i64 z]) (t := 3) (fr := (0, 0)) (by have h8 := heap_alloc_new (w9.setCell ⟨wb, 3, none⟩ (.slice va9 (L + t + 1) vc9)) (.cells #[.int .i64 z] 3); rw [World.size_setCell] at h8; exact h8)) (by simp [Value.oneCell']) (fun hr => H9.out.spare hr) (by unfold maxLen; omega) (by omega) (fun _ => ?_) (fun hr => absurd hr (by omega))))
            have H10 : Hid (KJ B w (((w9.setCell ⟨wb, 3, none⟩ (.slice va9 (L + t + 1) vc9)).alloc (.cells #[.int .i64 z] 3)).setCells gt (k + t) [.int .i64 z]) wb gg sv kv mv D K M z (t + 1) (k + t + 1) gt ct (.slice va9 (L + t + 1) vc9) (N ++ [(gt, k + t, ct)])) := H9.out.room HZ.out (by omega) HM.out hroom
            go_roundw
            case rel => exact ⟨t + 1, gt, ct, _, _, by omega, by go_num, rfl, H10⟩
            case measure => simp [intOf]; omega
          · go_wp2_with (first
              | (at_builtin; refine wpList_append_own_at _ rfl _ _ 30 rfl B 39 i0 _ 1 24 Tryz.underlying30 hi hz0 hz1 hz2 rfl (by omega) (.slice ma (L + t) mc) (L + t) (kC (M ++ N)) rfl (HRo.out.alloc _) ⟨W4.heap.size, 0, none⟩ 1 1 [.slice (some ⟨gt, 0, none⟩) (k + t) ct] rfl rfl (World.news_of_block (cs := #[.slice (some ⟨gt, 0, none⟩) (k + t) ct]) (t := 39) (fr := (0, 0)) (heap_alloc_new W4 _)) (by simp [Value.oneCell']) (by unfold maxLen; omega) (by omega) (by simp; omega) ?_; intro v9 w9 hown9 hgrow9 _ hat9; obtain ⟨va9, vc9, hv9⟩ := own_shape hown9; subst hv9; obtain ⟨c93, z93⟩ := HC9.out w9 hgrow9; have H9 : Hid (KJ B w ((w9.setCell ⟨wb, 3, none⟩ (.slice va9 (L + t + 1) vc9)).alloc (.cells #[.int .i64 z] 3)) wb gg sv kv mv D K M z (t + 1) (k + t) gt ct (.slice va9 (L + t + 1) vc9) (N ++ [(gt, k + t, ct)])) := (HKeep.out w9 _ hgrow9 hown9 hat9).same ((Fr.refl _ _).alloc _); clear hown9 hgrow9 hat9)
              | (at_builtin; refine wpList_append_arg ((w9.setCell ⟨wb, 3, none⟩ (.slice va9 (L + t + 1) vc9)).alloc (.cells #[.int .i64 z] 3)) rfl _ _ 39 rfl 3 i1 _ 1 8 Tryz.underlying39 hi1 hy0 hy1 hy2 rfl (by omega) gt 0 (k + t) ct (List.replicate (k + t) (.int .i64 z)) rfl (by simp) H9.out.olds ⟨w9.heap.size, 0, none⟩ 1 1 [.int .i64 z] rfl rfl (World.news_of_block (cs := #[.int .i64 z]) (t := 3) (fr := (0, 0)) (by have h8 := heap_alloc_new (w9.setCell ⟨wb, 3, none⟩ (.slice va9 (L + t + 1) vc9)) (.cells #[.int .i64 z] 3); rw [World.size_setCell] at h8; exact h8)) (by simp [Value.oneCell']) (fun hr => H9.out.spare hr) (by unfold maxLen; omega) (by omega) (fun hr => absurd hr (by omega)) (fun _ => ?_); intro vA wA hownA hgrowA; obtain ⟨gA, cA, hvA⟩ : ∃ gA cA, vA = .slice (some ⟨gA, 0, none⟩) (k + t + 1) cA := (by rcases hownA.2 with ⟨_, h0⟩ | ⟨gA, cA, _, h0, _⟩; (· omega); (· exact ⟨gA, cA, h0⟩)); subst hvA; have H10 : Hid (KJ B w wA wb gg sv kv mv D K M z (t + 1) (k + t + 1) gA cA (.slice va9 (L + t + 1) vc9) (N ++ [(gt, k + t, ct)])) := H9.out.new (by have h8 := HBw.out; have h9 := H9.out.fr.size; omega) hgrowA hownA (fun j hj => by rw [← List.replicate_succ', List.getElem?_replicate, if_pos hj]); clear hownA hgrowA))
            go_roundw
            case rel => exact ⟨t + 1, gA, cA, _, _, by omega, by go_num, rfl, H10⟩
            case measure => simp [intOf]; omega
        · have htt : t = 4 := by omega
          subst htt
          go_wp2
          go_end0
          exact ⟨rfl, mv', M ++ N, by rw [List.length_append, HT.out.nl], HT.out.wm, HT.out.fr, fun x hx => by
            rcases List.mem_append.1 hx with h | h
            · exact Or.inl h
            · exact Or.inr (by have := (HT.out.nn x h).2; omega)⟩
end Go.Proofs.YthdhegmlknpllaaGreat
