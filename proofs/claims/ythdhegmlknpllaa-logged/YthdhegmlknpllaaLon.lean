/-
  The walk of Open (36).
-/
import Derived.Test.YthdhegmlknpllaaLop
import Derived.Deep.LoopGhost
namespace Go.Proofs.Ythdhegmlknpllaa
open Go.RowKit Go.Maps Go.MuLone

theorem ent_head (o : Lo) : ∃ a tl, o.ent = a :: tl ∧ a.toNat = tl.length ∧ tl.length ≤ 6 := by
  cases o with
  | inl p => obtain ⟨_, _⟩ := p; exact ⟨_, _, rfl, rfl, by show 6 ≤ 6; omega⟩
  | inr t => exact ⟨_, _, rfl, rfl, by show 5 ≤ 6; omega⟩

/-- firstEntry of a text that begins with a whole entry. -/
theorem first_whole (a : UInt8) (tl r : List UInt8) (k : Nat) (ha : a.toNat = tl.length) (hk : tl.length + 1 ≤ k) (hb : k ≤ 1000000) (w : World) :
    Calls Try.prog 68 #[.string (ofL ((a :: tl ++ r).take k))] w fun e w' => e = .returned (.string (ofL (a :: tl))) ∧ w' = w := by
  obtain ⟨k', rfl⟩ : ∃ k', k = k' + 1 := ⟨k - 1, by omega⟩
  have hsz : (ofL ((a :: tl ++ r).take (k' + 1))).size = ((a :: tl ++ r).take (k' + 1)).length := ofL_size _
  have hl : ((a :: tl ++ r).take (k' + 1)).length = min (k' + 1) (tl.length + r.length + 1) := by simp <;> omega
  have h0 : 0 < (ofL ((a :: tl ++ r).take (k' + 1))).size := by rw [hsz, hl]; omega
  have := first_some (ofL ((a :: tl ++ r).take (k' + 1))) tl.length w h0 (by
    rw [← ha]
    rfl) (by rw [hsz, hl]; omega) (by rw [hsz, hl]; omega)
  have e : (ofL ((a :: tl ++ r).take (k' + 1))).extract 0 (1 + tl.length) = ofL (a :: tl) := by
    refine ofL_ext ?_
    rw [ext_list, ofL_list, ofL_list, List.drop_zero, Nat.sub_zero, List.take_take, Nat.min_eq_left (by omega), show 1 + tl.length = (a :: tl).length by simp; omega, List.take_left]
  rw [e] at this
  exact this
/-- firstEntry of a text that is cut off. -/
theorem first_cut (a : UInt8) (tl r : List UInt8) (k : Nat) (ha : a.toNat = tl.length) (hk : k < tl.length + 1) (w : World) :
    Calls Try.prog 68 #[.string (ofL ((a :: tl ++ r).take k))] w fun e w' => e = .returned (.string ⟨#[]⟩) ∧ w' = w := by
  refine first_none _ w ?_
  cases k with
  | zero => exact Or.inl (by rw [ofL_size]; simp)
  | succ k' =>
    right
    have hsz : (ofL ((a :: tl ++ r).take (k' + 1))).size = ((a :: tl ++ r).take (k' + 1)).length := ofL_size _
    have hl : ((a :: tl ++ r).take (k' + 1)).length = min (k' + 1) (tl.length + r.length + 1) := by simp <;> omega
    have h0 : 0 < (ofL ((a :: tl ++ r).take (k' + 1))).size := by rw [hsz, hl]; omega
    refine ⟨h0, ?_⟩
    have e : (ofL ((a :: tl ++ r).take (k' + 1)))[0] = a := rfl
    rw [e, ha, hsz, hl]
    omega

theorem lgT_cut (d : Int) (n : Nat) (L : List Lo) (j : Nat) : lgT d n L = lgT d n (L.take j) ++ (L.drop j).flatMap Lo.ent := by
  unfold lgT
  rw [List.append_assoc, ← List.flatMap_append, List.take_append_drop]
theorem lgT_mono (d : Int) (n : Nat) (L : List Lo) {i j : Nat} (h : i ≤ j) : (lgT d n (L.take i)).length ≤ (lgT d n (L.take j)).length := by
  have := lgT_cut d n (L.take j) i
  rw [List.take_take, Nat.min_eq_left h] at this
  rw [this, List.length_append]
  omega

/-- What is left of the log, behind so many calls. -/
theorem log_rest (d : Int) (n : Nat) (L : List Lo) (c j : Nat) (_hj : (lgT d n (L.take j)).length ≤ c) : (ofL ((lgT d n L).take c)).extract (lgT d n (L.take j)).length (ofL ((lgT d n L).take c)).size = ofL (((L.drop j).flatMap Lo.ent).take (c - (lgT d n (L.take j)).length)) := by
  refine ofL_ext ?_
  rw [ext_list, ofL_list, ofL_list, ofL_size]
  have e : ((lgT d n L).take c).drop (lgT d n (L.take j)).length = ((L.drop j).flatMap Lo.ent).take (c - (lgT d n (L.take j)).length) := by
    rw [List.drop_take]
    congr 1
    rw [lgT_cut d n L j, List.drop_left]
  rw [e]
  refine List.take_of_length_le ?_
  rw [← e, List.length_drop]
  exact Nat.le_refl _

theorem ns_append (A C : List Lo) : ns (A ++ C) = ns A + ns C := by simp [ns]
theorem ns_cons (o : Lo) (C : List Lo) : ns (o :: C) = o.snaps + ns C := by simp [ns]
theorem redo_one (B b : Nat) (x : Sto) (d : Int) (n : Nat) (L : List Lo) (j : Nat) (W : World) (hd : 1 ≤ d ∧ d ≤ 999) (hn : n ≤ 16) (hok : ∀ o ∈ L, o.ok n) (hns : ns L ≤ 12) (hL : L.length ≤ 1000) (hj : j < L.length) (h : Rep B W b 0 x) (hE : Eqv x (st d n (L.take j))) :
    Calls Try.prog 69 #[.pointer (some ⟨b, 0, none⟩), .string (ofL L[j].ent)] W fun e w' => e = .returned (.tuple #[]) ∧ ∃ x', Rep B w' b 0 x' ∧ Eqv x' (st d n (L.take (j + 1))) ∧ Fr (foot b x) W w' := by
  have hokj : ∀ o ∈ L.take j, o.ok n := fun o ho => hok o (List.mem_of_mem_take ho)
  have I := hE.inv (st_inv d n hn (L.take j) hokj)
  have hst : st d n (L.take (j + 1)) = stp (st d n (L.take j)) L[j] := by rw [List.take_succ_eq_append_getElem hj, st_snoc]
  have ho := hok L[j] (List.getElem_mem hj)
  have hns2 : ns L = ns (L.take j) + L[j].snaps + ns (L.drop (j + 1)) := by
    have e : L = L.take j ++ (L[j] :: L.drop (j + 1)) := by rw [← List.drop_eq_getElem_cons hj, List.take_append_drop]
    have e2 : ns L = ns (L.take j ++ (L[j] :: L.drop (j + 1))) := congrArg ns e
    rw [e2, ns_append, ns_cons]
    omega
  have hlog : x.log.length ≤ 7 + 7 * 1000 := by
    have := I.lg
    have h2 : (L.take j).length ≤ L.length := by rw [List.length_take]; omega
    omega
  cases hLj : L[j] with
  | inl p =>
    obtain ⟨k, y⟩ := p
    rw [hLj] at ho hst
    have ho' : k < n := ho
    refine (redo_w B b x k y W h (by rw [I.vol]; exact ho') (by rw [I.vol]; exact hn) (by omega)).mono ?_
    rintro e w' ⟨rfl, lv, r, f, a⟩
    exact ⟨rfl, _, r, by rw [hst]; exact hE.step_w k y lv, f⟩
  | inr t =>
    rw [hLj] at ho hst hns2
    have ho' : 0 ≤ t ∧ t ≤ 1073741824 := ho
    have hi : ns (L.take j) < 12 := by
      have : Lo.snaps (Sum.inr t) = 1 := rfl
      omega
    refine (redo_s B b x t W h ho' (by rw [I.id]; exact hd) (by rw [I.tk]; omega) I.free (by rw [I.ss]; exact hi) (by rw [I.ms]; simp) (by rw [I.cm]; omega) (by rw [I.vol]; exact hn) (by rw [I.vol]; have := I.cnt; unfold maxLen; omega) (by omega)).mono ?_
    rintro e w' ⟨rfl, sv, lv, r, f, a1, a2⟩
    exact ⟨rfl, _, r, by rw [hst]; exact hE.step_s t sv lv, f⟩

set_option maxRecDepth 100000 in
set_option maxHeartbeats 3200000 in
theorem open_any (d : Int) (n : Nat) (L : List Lo) (c m : Nat) (w : World) (hd : 1 ≤ d ∧ d ≤ 999) (hn : 1 ≤ n ∧ n ≤ 16) (hok : ∀ o ∈ L, o.ok n) (hns : ns L ≤ 12) (hL : L.length ≤ 1000) (hc : c ≤ 100000) (hm1 : m ≤ L.length) (hm2 : (lgT d n (L.take m)).length ≤ c) (hm3 : m < L.length → c < (lgT d n (L.take (m + 1))).length) :
    Calls Try.prog 36 #[.string (ofL ((lgT d n L).take c))] w fun e w' => ∃ b x, e = .returned (.tuple #[.pointer (some ⟨b, 0, none⟩), .int .i64 0]) ∧ Rep w.heap.size w' b 0 x ∧ Eqv x (st d n (L.take m)) ∧ Fr [] w w' := by
  have hlm := lgT_len d n (L.take m)
  have HF : Hid (∀ W, Calls Try.prog 68 #[.string (ofL ((lgT d n L).take c))] W fun e w' => e = .returned (.string (ofL (entN d n))) ∧ w' = W) := fun W => by
    have e : entN d n = 6 :: (entN d n).tail := rfl
    have := first_whole 6 (entN d n).tail (L.flatMap Lo.ent) c rfl (by show 7 ≤ c; omega) (by omega) W
    rw [← e] at this
    exact this
  have HBg : Hid (∀ W, Calls Try.prog 67 #[.string (ofL (entN d n))] W fun e w' => ∃ b vb mb lv, e = .returned (.tuple #[.pointer (some ⟨b, 0, none⟩), .bool true]) ∧ Rep W.heap.size w' b 0 (Sto.made d n vb mb lv) ∧ Fr [] W w') := fun W => begin_ok d n hd hn W
  obtain ⟨eN, heN⟩ : ∃ eN, ofL (entN d n) = eN := ⟨_, rfl⟩
  rw [heN] at HF HBg
  have hsz : (ofL ((lgT d n L).take c)).size ≤ c := by rw [ofL_size, List.length_take]; omega
  have HR : Hid (∀ j, j ≤ m → (lgT d n (L.take j)).length ≤ (ofL ((lgT d n L).take c)).size ∧ (ofL ((lgT d n L).take c)).extract (lgT d n (L.take j)).length (ofL ((lgT d n L).take c)).size = ofL (((L.drop j).flatMap Lo.ent).take (c - (lgT d n (L.take j)).length))) := fun j hj => by
    have h1 := lgT_mono d n L hj
    refine ⟨?_, log_rest d n L c j (by omega)⟩
    rw [ofL_size, List.length_take]
    have h2 := lgT_cut d n L j
    have h3 : (lgT d n (L.take j)).length ≤ (lgT d n L).length := by rw [h2, List.length_append]; omega
    omega
  obtain ⟨T, hT⟩ : ∃ T, ofL ((lgT d n L).take c) = T := ⟨_, rfl⟩
  rw [hT] at HF HR hsz ⊢
  have HA : Hid ((∀ o ∈ L, o.ok n) ∧ ns L ≤ 12 ∧ L.length ≤ 1000 ∧ m ≤ L.length ∧ (lgT d n (L.take m)).length ≤ c ∧ (m < L.length → c < (lgT d n (L.take (m + 1))).length)) := ⟨hok, hns, hL, hm1, hm2, hm3⟩
  clear heN hT hok hns hm2 hm3 hlm
  go_enter Try.func36, Try.ntmps36
  go_wp2_with (first
    | (go_at_call 68; refine (HF.out _).mono ?_; rintro e w' ⟨rfl, hw'⟩; have hw' := hw'.symm; subst hw')
    | (go_at_call 67; refine (HBg.out _).mono ?_; rintro e w1 ⟨b, vb, mb, lv, rfl, r1, f1⟩
       have H1 : Hid (Rep w.heap.size w1 b 0 (Sto.made d n vb mb lv) ∧ Eqv (Sto.made d n vb mb lv) (st d n (L.take 0)) ∧ Fr [] w w1) := ⟨r1, Eqv.made d n vb mb lv, f1⟩
       clear r1 f1))
  go_loopg [6, 7] m (fun g _ _ wr => ∃ (j : Nat) (x : Sto), j ≤ m ∧ g = m - j ∧ Hid (Rep w.heap.size wr b 0 x ∧ Eqv x (st d n (L.take j)) ∧ Fr [] w wr))
  case atStart => exact ⟨0, _, Nat.zero_le _, rfl, H1⟩
  case round =>
    obtain ⟨j, x, hj, rfl, HK⟩ := hrel
    obtain ⟨W3, hW3⟩ : ∃ W3, W3 = wr := ⟨_, rfl⟩
    subst hW3
    clear H1 HF HBg
    obtain ⟨la, lc, hlv⟩ := own_shape HK.out.1.lg
    have hlog : x.log.length = (lgT d n (L.take j)).length := by rw [HK.out.2.1.lg, st_log]
    have hR := HR.out j hj
    obtain ⟨N, hN⟩ : ∃ N, (lgT d n (L.take j)).length = N := ⟨_, rfl⟩
    rw [hN] at hlog hR
    rw [hlog] at hlv
    have c9 : W3.cell? ⟨b, 9, none⟩ = some (.slice la N lc) := by rw [← hlv]; exact HK.out.1.cells.2.2.2.2.2.2.2.2
    have hN0 : (0 : Int) ≤ (N : Int) := by omega
    have hN1 : (N : Int) ≤ (T.size : Int) := by have := hR.1; omega
    by_cases hjm : j < m
    · have hjL : j < L.length := by omega
      obtain ⟨a, tl, hent, ha, htl⟩ := ent_head L[j]
      have hdr : (L.drop j).flatMap Lo.ent = a :: tl ++ (L.drop (j + 1)).flatMap Lo.ent := by rw [List.drop_eq_getElem_cons hjL, List.flatMap_cons, hent]
      have hlen1 : (lgT d n (L.take (j + 1))).length = N + (tl.length + 1) := by rw [List.take_succ_eq_append_getElem hjL, lgT_snoc, List.length_append, hent, hN]; rfl
      have hmo := lgT_mono d n L (show j + 1 ≤ m by omega)
      have hcm := HA.out.2.2.2.2.1
      have HF1 : Hid (Calls Try.prog 68 #[.string (T.extract N T.size)] W3 fun e w' => e = .returned (.string (ofL L[j].ent)) ∧ w' = W3) := by
        rw [hR.2, hdr, hent]
        exact first_whole a tl _ (c - N) ha (by omega) (by omega) W3
      have HRd : Hid (Calls Try.prog 69 #[.pointer (some ⟨b, 0, none⟩), .string (ofL L[j].ent)] W3 fun e w' => e = .returned (.tuple #[]) ∧ ∃ x', Rep w.heap.size w' b 0 x' ∧ Eqv x' (st d n (L.take (j + 1))) ∧ Fr (foot b x) W3 w') := redo_one w.heap.size b x d n L j W3 hd hn.2 HA.out.1 HA.out.2.1 HA.out.2.2.1 hjL HK.out.1 HK.out.2.1
      have hEs : (ofL L[j].ent).size = tl.length + 1 := by rw [ofL_size, hent]; rfl
      have hEe : (ofL L[j].ent).toList.isEmpty = false := by rw [ByteArray.toList_eq, ofL_list, hent]; rfl
      obtain ⟨E, hE⟩ : ∃ E, ofL L[j].ent = E := ⟨_, rfl⟩
      obtain ⟨ne, hne⟩ : ∃ ne, tl.length + 1 = ne := ⟨_, rfl⟩
      obtain ⟨N2, hN2⟩ : ∃ N2, N + ne = N2 := ⟨_, rfl⟩
      obtain ⟨R, hRR⟩ : ∃ R, T.extract N T.size = R := ⟨_, rfl⟩
      rw [hE] at HF1 HRd hEs hEe
      rw [hRR] at HF1
      rw [hne] at hEs hlen1
      rw [hN2] at hlen1
      have hw : IntKind.i64.wrap ((N : Int) + (ne : Int)) = (N2 : Int) := by rw [show (N : Int) + (ne : Int) = (N2 : Int) by omega]; exact wrap_fit ⟨by omega, by omega⟩
      have HL1 : Hid ((lgT d n (L.take (j + 1))).length = N2) := hlen1
      clear hE hne hR hdr hent ha htl hlen1 hmo hcm hlog hlv hN
      go_wp2_with (first
        | (go_at_call 68; refine HF1.out.mono ?_; rintro e w' ⟨rfl, hw'⟩; have hw' := hw'.symm; subst hw')
        | (go_at_call 69; refine HRd.out.mono ?_; rintro e w4 ⟨rfl, x', r4, e4, f4⟩
           have H4 : Hid (Rep w.heap.size w4 b 0 x' ∧ Eqv x' (st d n (L.take (j + 1))) ∧ Fr [] w w4) := ⟨r4, e4, HK.out.2.2.trans f4 (fun k hk => Or.inr (HK.out.1.lt k hk).1)⟩
           obtain ⟨la2, lc2, hlv2⟩ := own_shape r4.lg
           have hlog2 : x'.log.length = N2 := (by rw [e4.lg, st_log, HL1.out])
           rw [hlog2] at hlv2
           have c92 : w4.cell? ⟨b, 9, none⟩ = some (.slice la2 N2 lc2) := (by rw [← hlv2]; exact r4.cells.2.2.2.2.2.2.2.2)
           clear r4 e4 f4 hlv2 hlog2))
      go_roundg (m - (j + 1))
      case measure => omega
      case rel => exact ⟨j + 1, x', by omega, rfl, H4⟩
    · have hjj : j = m := by omega
      subst hjj
      have HF1 : Hid (Calls Try.prog 68 #[.string (T.extract N T.size)] W3 fun e w' => e = .returned (.string ⟨#[]⟩) ∧ w' = W3) := by
        rw [hR.2]
        by_cases hjL : j < L.length
        · obtain ⟨a, tl, hent, ha, htl⟩ := ent_head L[j]
          have hdr : (L.drop j).flatMap Lo.ent = a :: tl ++ (L.drop (j + 1)).flatMap Lo.ent := by rw [List.drop_eq_getElem_cons hjL, List.flatMap_cons, hent]
          have hlen1 : (lgT d n (L.take (j + 1))).length = N + (tl.length + 1) := by rw [List.take_succ_eq_append_getElem hjL, lgT_snoc, List.length_append, hent, hN]; rfl
          have hcl := HA.out.2.2.2.2.2 hjL
          rw [hdr]
          exact first_cut a tl _ (c - N) ha (by omega) W3
        · have hdr : L.drop j = [] := List.drop_eq_nil_of_le (by omega)
          rw [hdr]
          exact first_none _ W3 (Or.inl (by rw [ofL_size]; simp))
      obtain ⟨R, hRR⟩ : ∃ R, T.extract N T.size = R := ⟨_, rfl⟩
      rw [hRR] at HF1
      clear hR hlog hlv hN
      go_wp2_with (first
        | (go_at_call 68; refine HF1.out.mono ?_; rintro e w' ⟨rfl, hw'⟩; have hw' := hw'.symm; subst hw'))
      go_ret2
      exact ⟨b, x, rfl, HK.out.1, HK.out.2.1, HK.out.2.2⟩

set_option maxRecDepth 100000 in
set_option maxHeartbeats 800000 in
theorem open_bad (d : Int) (n : Nat) (L : List Lo) (c : Nat) (w : World) (hc : c < 7) :
    Calls Try.prog 36 #[.string (ofL ((lgT d n L).take c))] w fun e w' => e = .returned (.tuple #[.pointer none, .int .i64 2]) ∧ Fr [] w w' := by
  have HF : Hid (∀ W, Calls Try.prog 68 #[.string (ofL ((lgT d n L).take c))] W fun e w' => e = .returned (.string ⟨#[]⟩) ∧ w' = W) := fun W => by
    have e : entN d n = 6 :: (entN d n).tail := rfl
    have := first_cut 6 (entN d n).tail (L.flatMap Lo.ent) c rfl (by show c < 7; omega) W
    rw [← e] at this
    exact this
  have HBg : Hid (∀ W, Calls Try.prog 67 #[.string ⟨#[]⟩] W fun e w' => e = .returned (.tuple #[.pointer none, .bool false]) ∧ Fr [] W w') := fun W => begin_bad W
  obtain ⟨T, hT⟩ : ∃ T, ofL ((lgT d n L).take c) = T := ⟨_, rfl⟩
  rw [hT] at HF ⊢
  clear hT
  go_enter Try.func36, Try.ntmps36
  go_wp2_with (first
    | (go_at_call 68; refine (HF.out _).mono ?_; rintro e w' ⟨rfl, hw'⟩; have hw' := hw'.symm; subst hw')
    | (go_at_call 67; refine (HBg.out _).mono ?_; rintro e w1 ⟨rfl, f1⟩; have H1 : Hid (Fr [] w w1) := f1; clear f1))
  go_ret2
  exact ⟨rfl, H1.out⟩
end Go.Proofs.Ythdhegmlknpllaa
