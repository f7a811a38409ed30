import Derived.Test.YthdhegmlknpllabGreatDoorM44
/-
  The net's rows turn; the walk of tetherkeep's goes (25).
-/
namespace Go.Proofs.YthdhegmlknpllabGreatDoor
open Go.RowKit Go.Maps Go.MuLone

section
variable {nb BN n : Nat} {c : SCfg} {rcs : List RCfg} {W W' : World} {S S' : Sto} {ti ti' : Int} {ps ps' : List Pe} {im : List Img} {Rs : List Sto} {way way' : List (Nat × Lt)} {rv wv iv : Value} {vs : List Value}

/-- Blocks of the net's own types are written. -/
theorem NM.net (h : NM nb BN n c rcs W S ti ps im Rs way rv wv iv vs) {F : List Nat} (hf : Fr F W W') (ht : ∀ j ∈ F, ∀ cur t, W.heap[j]? = some (.cells cur t (0, 0)) → t = 32 ∨ t = 108 ∨ t = 60) (hm : ∀ j ∈ F, ∃ cur t, W.heap[j]? = some (.cells cur t (0, 0))) {wv' iv' : Value} {im' : List Img} {vs' : List Value}
    (blk : W'.heap[nb]? = some (.cells #[.pointer (some ⟨c.xb, 0, none⟩), rv, .int .i64 n, wv', iv'] 32 (0, 0))) (wo : W'.ownsRow BN 108 3 wv' way'.length (mlC n way')) (io : W'.ownsRow BN 60 3 iv' im'.length (imC (imCells im' vs'))) (vo : ∀ j, j < im'.length → W'.ownsRow BN 9 1 (vs'.getD j (.slice none 0 0)) n (b4S (im'.getD j ⟨0, []⟩).blk)) (vl : vs'.length = im'.length) : NM nb BN n c rcs W' S ti ps im' Rs way' rv wv' iv' vs' := by
  have hft : ∀ {B b : Nat} {q : Int} {s : Sto}, Rep B W b q s → ∀ k ∈ foot b s, k ∉ F := fun {B b q s} hr k hk hF => by
    obtain ⟨cur, t, e⟩ := hm k hF
    rcases ht k hF cur t e with r | r | r <;> subst r <;> exact tag_foot hr e (by decide) hk
  refine ⟨SK.fr h.sk hf (hft h.sk.rep) (fun j hj cur t e => ?_), h.rl, fun i r R h1 h2 => (h.rm i r R h1 h2).fr hf (hft (h.rm i r R h1 h2).rk.rep) (fun j hj cur t e => ?_), h.dS, h.dR, blk, own_tagged h.ro hf (fun j hj cur e => ?_), wo, io, vo, vl, h.hnb⟩
  · rcases ht j hj cur t e with r | r | r <;> subst r <;> decide
  · rcases ht j hj cur t e with r | r | r <;> subst r <;> decide
  · rcases ht j hj cur _ e with r | r | r <;> cases r

/-- The letters on their way turn. -/
theorem NM.setWay (h : NM nb BN n c rcs W S ti ps im Rs way rv wv iv vs) {F : List Nat} {W9 : World} (hf : Fr F W W9) (ht : ∀ j ∈ F, ∃ cur, W.heap[j]? = some (.cells cur 108 (0, 0))) {wv' : Value} (ho : W9.ownsRow BN 108 3 wv' way'.length (mlC n way')) : NM nb BN n c rcs (W9.setCell ⟨nb, 3, none⟩ wv') S ti ps im Rs way' rv wv' iv vs := by
  have hnF : nb ∉ F := fun hm => by
    obtain ⟨cur, e⟩ := ht nb hm
    rw [h.blk] at e
    simp at e
  have b9 : W9.heap[nb]? = some (.cells #[.pointer (some ⟨c.xb, 0, none⟩), rv, .int .i64 n, wv, iv] 32 (0, 0)) := by rw [hf.block nb (Array.getElem?_eq_some_iff.1 h.blk).1 hnF]; exact h.blk
  have hf2 : Fr (nb :: F) W (W9.setCell ⟨nb, 3, none⟩ wv') := (hf.mono (fun k hk => List.mem_cons_of_mem _ hk)).setCell _ (Or.inl (by simp))
  have hro : ∀ {base : Nat} {e : TypeId} {size : Nat} {v : Value} {k : Nat} {xs : List Value}, e ≠ 32 → W9.ownsRow base e size v k xs → (W9.setCell ⟨nb, 3, none⟩ wv').ownsRow base e size v k xs := fun {base e size v k xs} he ho' => by
    refine own_fr (F := [nb]) ho' ((Fr.refl _ _).setCell _ (Or.inl (by simp))) (fun j hj hm => ?_)
    simp at hm
    obtain ⟨_, cur, h4⟩ := own_tag ho' hj
    rw [hm, b9] at h4
    simp at h4
    exact he h4.2.symm
  refine h.net hf2 (fun j hj cur t e => ?_) (fun j hj => ?_) ?_ (hro (by decide) ho) (hro (by decide) (own_tagged h.io hf (fun j hj cur e => ?_))) (fun j hj => hro (by decide) (own_tagged (h.vo j hj) hf (fun j hj cur e => ?_))) h.vl
  · rcases List.mem_cons.1 hj with rfl | hj
    · rw [h.blk] at e
      simp at e
      exact Or.inl e.2.symm
    · obtain ⟨cur', e'⟩ := ht j hj
      rw [e'] at e
      simp at e
      exact Or.inr (Or.inl e.2.symm)
  · rcases List.mem_cons.1 hj with rfl | hj
    · exact ⟨_, _, h.blk⟩
    · obtain ⟨cur', e'⟩ := ht j hj
      exact ⟨_, _, e'⟩
  · rw [heap_setCell_same _ _ _ _ _ _ b9]
    rfl
  · obtain ⟨cur', e'⟩ := ht j hj
    rw [e'] at e
    simp at e
  · obtain ⟨cur', e'⟩ := ht j hj
    rw [e'] at e
    simp at e
theorem NM.push (h : NM nb BN n c rcs W S ti ps im Rs way rv wv iv vs) {W9 : World} {wv' : Value} (m : Nat × Lt) (ho : W9.ownsRow BN 108 3 wv' (way.length + 1) (mlC n way ++ ml3 n m)) (hg : W.grownBy W9 wv.ownBlock) : NM nb BN n c rcs (W9.setCell ⟨nb, 3, none⟩ wv') S ti ps im Rs (way ++ [m]) rv wv' iv vs := by
  refine h.setWay (F := wv.ownBlock.toList) ((Fr.refl _ _).grown hg (fun k hk => Or.inl (by simp [hk]))) (fun j hj => ?_) ?_
  · simp at hj
    exact (own_tag h.wo hj).2
  · rw [List.length_append]
    have e1 : mlC n (way ++ [m]) = mlC n way ++ ml3 n m := by simp [mlC]
    rw [e1]
    exact ho
theorem NM.cells (h : NM nb BN n c rcs W S ti ps im Rs way rv wv iv vs) : W.cell? ⟨nb, 0, none⟩ = some (.pointer (some ⟨c.xb, 0, none⟩)) ∧ W.cell? ⟨nb, 1, none⟩ = some rv ∧ W.cell? ⟨nb, 2, none⟩ = some (.int .i64 n) ∧ W.cell? ⟨nb, 3, none⟩ = some wv ∧ W.cell? ⟨nb, 4, none⟩ = some iv ∧ W.frozen? ⟨nb, 3, none⟩ = false ∧ W.frozen? ⟨nb, 4, none⟩ = false := by
  refine ⟨?_, ?_, ?_, ?_, ?_, froz_of h.blk _, froz_of h.blk _⟩ <;> rw [cell_of h.blk] <;> rfl
end
theorem info108 : (Tryz.prog.info? 108).map (fun i => (i.zero, i.size, i.bytes)) = some (some (.agg #[.int .i64 0, .bool false, .string ⟨#[]⟩]), 3, 32) := by kernel_rfl

/-- What goes leaves. -/
def GoPost (nb BN n : Nat) (c : SCfg) (rcs : List RCfg) (w W : World) (S : Sto) (ti : Int) (ps : List Pe) (im : List Img) (Rs : List Sto) (way : List (Nat × Lt)) (rv iv : Value) (vs : List Value) (wv0 : Value) : Prop :=
  ∃ wv, NM nb BN n c rcs W S ti ps im Rs way rv wv iv vs ∧ Fr (nb :: wv0.ownBlock.toList) w W ∧ ∀ k, wv.ownBlock = some k → wv0.ownBlock = some k ∨ w.heap.size ≤ k

set_option maxRecDepth 100000 in
set_option maxHeartbeats 3200000 in
theorem goes_any (nb BN n : Nat) (c : SCfg) (rcs : List RCfg) (w : World) (S : Sto) (ti : Int) (ps : List Pe) (im : List Img) (Rs : List Sto) (way L : List (Nat × Lt)) (rv wv iv : Value) (vs : List Value) (base : Nat) (v : Value) (h : NM nb BN n c rcs w S ti ps im Rs way rv wv iv vs) (ho : w.ownsRow base 115 2 v L.length (ltC (lts n L))) (hL : L.length ≤ 3) (hb : ∀ m ∈ L, m.2.back = false ∧ m.1 < rcs.length) (hw : way.length ≤ 100000000) :
    Calls Tryz.prog 25 #[.pointer (some ⟨nb, 0, none⟩), v] w fun e w' => e = .returned (.bool true) ∧ GoPost nb BN n c rcs w w' S ti ps im Rs (way ++ L) rv iv vs wv := by
  obtain ⟨i0, hi, hz0, hz1, hz2⟩ := info_parts info108
  obtain ⟨va, vc, hv⟩ := own_shape ho
  subst hv
  have HO : Hid (w.ownsRow base 115 2 (.slice va L.length vc) L.length (ltC (lts n L))) := ho
  have HB : Hid (∀ m ∈ L, m.2.back = false ∧ m.1 < rcs.length) := hb
  obtain ⟨l, hl⟩ : ∃ l, L.length = l := ⟨_, rfl⟩
  have HL : Hid (L.length = l) := hl
  obtain ⟨ra, rcp, hrv⟩ := own_shape h.ro
  subst hrv
  obtain ⟨m, hm⟩ : ∃ m, rcs.length = m := ⟨_, rfl⟩
  have HM : Hid (rcs.length = m) := hm
  have H0 : Hid (GoPost nb BN n c rcs w w S ti ps im Rs (way ++ L.take 0) (.slice ra rcs.length rcp) iv vs wv ∧ w.ownsRow base 115 2 (.slice va L.length vc) L.length (ltC (lts n L))) := ⟨⟨wv, by rw [List.take_zero, List.append_nil]; exact h, Fr.refl _ _, fun _ hk => Or.inl hk⟩, ho⟩
  rw [hl] at hL ⊢
  clear ho h hb hl hm HO
  go_enter Tryz.func25, Tryz.ntmps25
  go_wp2
  go_loopw [5] (fun i wr => ∃ k : Nat, k ≤ l ∧ i = .int .i64 k ∧ Hid (GoPost nb BN n c rcs w wr S ti ps im Rs (way ++ L.take k) (.slice ra rcs.length rcp) iv vs wv ∧ wr.ownsRow base 115 2 (.slice va L.length vc) L.length (ltC (lts n L)))) (fun i _ => l - (intOf i).toNat)
  case atStart => exact ⟨0, Nat.zero_le _, rfl, H0⟩
  case round =>
    obtain ⟨k, hk, rfl, HK⟩ := hrel
    obtain ⟨W3, hW3⟩ : ∃ W3, W3 = wr := ⟨_, rfl⟩
    subst hW3
    clear H0
    by_cases hlt : k < l
    · have hltz : (k : Int) < (l : Int) := by omega
      have k0 : (0 : Int) ≤ (k : Int) := by omega
      have hkL : k < L.length := by rw [HL.out]; exact hlt
      have hkl : k < (lts n L).length := by simpa [lts] using hkL
      obtain ⟨p, hp⟩ : ∃ p, L[k] = p := ⟨_, rfl⟩
      have hpm : p ∈ L := by rw [← hp]; exact List.getElem_mem _
      obtain ⟨hbk, hpr⟩ := HB.out p hpm
      have htk : L.take (k + 1) = L.take k ++ [p] := by rw [List.take_succ_eq_append_getElem hkL, hp]
      have HTK : Hid (L.take (k + 1) = L.take k ++ [p] ∧ p.2.back = false ∧ k < L.length) := ⟨htk, hbk, hkL⟩
      obtain ⟨gg, hgg, hcap, hcl⟩ := own_addr HK.out.2 (by omega)
      have e0 : (lts n L)[k] = (p.1, p.2.txt p.1 n) := by simp [lts, hp]
      have g0 := (ltC_get (lts n L) k hkl).1
      have g1 := (ltC_get (lts n L) k hkl).2
      rw [e0] at g0 g1
      have d0 : W3.cell? ⟨gg, k * 2, none⟩ = some (.int .i64 (p.1 : Int)) := (hcl _ (by omega)).trans g0
      have d1 : W3.cell? ⟨gg, k * 2 + 1, none⟩ = some (.string (p.2.txt p.1 n)) := (hcl _ (by omega)).trans g1
      obtain ⟨wv3, hM3, hB3, hW3o⟩ := HK.out.1
      obtain ⟨wa, wc, hwv⟩ := own_shape hM3.wo
      subst hwv
      obtain ⟨wl, hwl⟩ : ∃ wl, (way ++ L.take k).length = wl := ⟨_, rfl⟩
      have hwl2 : wl ≤ 100000010 := by
        rw [← hwl, List.length_append, List.length_take]
        omega
      have HW3 : Hid (NM nb BN n c rcs W3 S ti ps im Rs (way ++ L.take k) (.slice ra rcs.length rcp) (.slice wa (way ++ L.take k).length wc) iv vs ∧ (Fr (nb :: wv.ownBlock.toList) w W3 ∧ ∀ k, (Value.slice wa wl wc).ownBlock = some k → wv.ownBlock = some k ∨ w.heap.size ≤ k) ∧ (way ++ L.take k).length = wl) := ⟨hM3, ⟨hB3, by rw [← hwl]; exact hW3o⟩, hwl⟩
      obtain ⟨x0, x1, x2, x3, x4, z3, z4⟩ := hM3.cells
      rw [HM.out] at x1
      rw [hwl] at x3
      obtain ⟨To, hTo⟩ : ∃ To : Nat, p.1 = To := ⟨_, rfl⟩
      obtain ⟨Tx, hTx⟩ : ∃ Tx, p.2.txt p.1 n = Tx := ⟨_, rfl⟩
      have HT : Hid (p.1 = To ∧ p.2.txt p.1 n = Tx) := ⟨hTo, hTx⟩
      rw [hTx] at d1
      rw [hTo] at d0 hpr
      have t0 : ¬ (To : Int) < 0 := by omega
      have t0e : decide ((To : Int) < 0) = false := decide_eq_false t0
      have t1 : (To : Int) < (m : Int) := by have := HM.out; omega
      have HKo : Hid (W3.ownsRow base 115 2 (.slice va L.length vc) L.length (ltC (lts n L))) := HK.out.2
      have hne : (Value.slice wa wl wc).ownBlock ≠ some nb := fun e => by
        obtain ⟨_, cur, h4⟩ := own_tag hM3.wo (by rw [hwl]; exact e)
        rw [hM3.blk] at h4
        simp at h4
      have HNE : Hid ((Value.slice wa wl wc).ownBlock ≠ some nb) := hne
      have HO3 : Hid (W3.ownsRow BN 108 3 (.slice wa wl wc) wl (mlC n (way ++ L.take k))) := by
        have h8 := hM3.wo
        rw [hwl] at h8
        exact h8
      have hBn : BN ≤ W3.heap.size := by
        have h8 := (Array.getElem?_eq_some_iff.1 hM3.blk).1
        have h9 := hM3.hnb
        omega
      have lnb : nb < W3.heap.size := (Array.getElem?_eq_some_iff.1 hM3.blk).1
      subst hgg
      clear HK hM3 hB3 hW3o hcl g0 g1 e0 hp hpm hbk htk hTo hTx hwl hne hkL hkl
      go_wp2
      go_quiet (fail)
      go_wp2
      have HW4 : Hid (NM nb BN n c rcs (W3.drewN nq) S ti ps im Rs (way ++ L.take k) (.slice ra rcs.length rcp) (.slice wa (way ++ L.take k).length wc) iv vs ∧ (Fr (nb :: wv.ownBlock.toList) w (W3.drewN nq) ∧ ∀ k, (Value.slice wa wl wc).ownBlock = some k → wv.ownBlock = some k ∨ w.heap.size ≤ k) ∧ (way ++ L.take k).length = wl ∧ (W3.drewN nq).ownsRow BN 108 3 (.slice wa wl wc) wl (mlC n (way ++ L.take k)) ∧ (W3.drewN nq).ownsRow base 115 2 (.slice (some ⟨gg, 0, none⟩) L.length vc) L.length (ltC (lts n L))) := ⟨HW3.out.1.same ((Fr.refl _ _).drewN nq), ⟨HW3.out.2.1.1.drewN nq, HW3.out.2.1.2⟩, HW3.out.2.2, HO3.out, HKo.out⟩
      have e0 : (W3.drewN nq).cell? ⟨gg, k * 2, none⟩ = some (.int .i64 (To : Int)) := d0
      have e1 : (W3.drewN nq).cell? ⟨gg, k * 2 + 1, none⟩ = some (.string Tx) := d1
      have y3 : (W3.drewN nq).cell? ⟨nb, 3, none⟩ = some (.slice wa wl wc) := x3
      have u3 : (W3.drewN nq).frozen? ⟨nb, 3, none⟩ = false := z3
      have hBn4 : BN ≤ (W3.drewN nq).heap.size := hBn
      have lnb4 : nb < (W3.drewN nq).heap.size := lnb
      obtain ⟨W4, hW4⟩ : ∃ W4, W3.drewN nq = W4 := ⟨_, rfl⟩
      rw [hW4] at HW4 e0 e1 y3 u3 hBn4 lnb4 ⊢
      clear hW4 d0 d1 x0 x1 x2 x3 x4 z3 z4 HW3 HO3 HKo hBn lnb
      go_region_law
        ((refine step_append_lies _ (by rfl) _ _ _ (by rfl) BN 108 i0 _ 3 32 Tryz.underlying29 hi hz0 hz1 hz2 rfl (by omega) (.slice wa wl wc) wl (mlC n (way ++ L.take k)) (by rfl) ((HW4.out.2.2.2.1.alloc _).drew) ⟨W4.heap.size, 0, none⟩ 1 1 [.int .i64 (To : Int), .bool false, .string Tx] (by rfl) (by rfl) (World.news_of_block (cs := #[.int .i64 (To : Int), .bool false, .string Tx]) (t := 108) (fr := (0, 0)) (heap_alloc_new W4 _)) (by simp [Value.oneCell']) (by omega) (by unfold maxLen; omega) (by omega) (by simp; omega) (W4.heap.size + 1) (by simp) ?_; intro wg cap1 w9 hown9 hgrow hat hlt9; have f9 : w9.frozen? ⟨nb, 3, none⟩ = false := (hgrow.frozen_far ⟨nb, 3, none⟩ (by simp; omega) (Ne.symm HNE.out)).trans (froz_alloc lnb4 u3); have c9 : w9.cell? ⟨nb, 3, none⟩ = some (.slice wa wl wc) := (hgrow.cell_far ⟨nb, 3, none⟩ (by simp; omega) (Ne.symm HNE.out)).trans ((World.cell?_of_block (Below.heap_alloc W4 _ nb lnb4)).trans y3)))
      all_goals
        have H9 : Hid (GoPost nb BN n c rcs w (w9.setCell ⟨nb, 3, none⟩ (.slice (some ⟨wg, 0, none⟩) (wl + 1) cap1)) S ti ps im Rs (way ++ L.take (k + 1)) (.slice ra rcs.length rcp) iv vs wv ∧ (w9.setCell ⟨nb, 3, none⟩ (.slice (some ⟨wg, 0, none⟩) (wl + 1) cap1)).ownsRow base 115 2 (.slice (some ⟨gg, 0, none⟩) L.length vc) L.length (ltC (lts n L))) := by
          have fa : Fr [] W4 (W4.alloc (.cells #[.int .i64 (To : Int), .bool false, .string Tx] 108)).drew := ((Fr.refl _ _).alloc _).drew
          have M1 := HW4.out.1.same fa
          have e5 : ml3 n p = [.int .i64 (To : Int), .bool false, .string Tx] := by
            unfold ml3
            rw [HTK.out.2.1, HT.out.2, HT.out.1]
          have M2 := M1.push p (W9 := w9) (wv' := .slice (some ⟨wg, 0, none⟩) (wl + 1) cap1) (by rw [HW4.out.2.2.1, e5]; exact hown9) (by rw [HW4.out.2.2.1]; exact hgrow)
          have hown : ∀ k, (Value.slice wa wl wc).ownBlock = some k → BN ≤ k ∧ ∃ cur, W4.heap[k]? = some (.cells cur 108 (0, 0)) := fun k hk => own_tag HW4.out.2.2.2.1 hk
          have F9 : Fr (nb :: (Value.slice wa wl wc).ownBlock.toList) W4 (w9.setCell ⟨nb, 3, none⟩ (.slice (some ⟨wg, 0, none⟩) (wl + 1) cap1)) := ((((Fr.refl _ _).alloc _).drew).grown hgrow (fun k hk => Or.inl (by simp [hk]))).setCell _ (Or.inl (by simp))
          have hsz4 := HW4.out.2.1.1.size
          refine ⟨⟨.slice (some ⟨wg, 0, none⟩) (wl + 1) cap1, ?_, ?_, fun j hj => ?_⟩, own_tagged HW4.out.2.2.2.2 F9 (fun j hj cur e => ?_)⟩
          · rw [HTK.out.1, ← List.append_assoc]
            exact M2
          · refine HW4.out.2.1.1.trans F9 (fun j hj => ?_)
            rcases List.mem_cons.1 hj with rfl | hj
            · exact Or.inl (by simp)
            · simp at hj
              exact (HW4.out.2.1.2 j hj).imp_left (fun h5 => by simp [h5])
          · have hj' : wg = j := by simpa [Value.ownBlock] using hj
            rcases hat with h5 | h5
            · rw [hj'] at h5
              exact HW4.out.2.1.2 j h5
            · right
              omega
          · rcases List.mem_cons.1 hj with rfl | hj
            · rw [HW4.out.1.blk] at e
              simp at e
            · simp at hj
              obtain ⟨_, cur', e'⟩ := hown j hj
              rw [e'] at e
              simp at e
        clear hown9 hgrow hat hlt9 f9 c9
        go_wp2
        go_roundw
        case rel => exact ⟨k + 1, by omega, by go_num, H9⟩
        case measure => simp [intOf]; omega
    · have hkm : k = l := by omega
      subst hkm
      go_wp2
      go_ret
      have h8 := HK.out.1
      rw [List.take_of_length_le (by rw [HL.out]; exact Nat.le_refl _)] at h8
      exact ⟨rfl, h8⟩
end Go.Proofs.YthdhegmlknpllabGreatDoor
