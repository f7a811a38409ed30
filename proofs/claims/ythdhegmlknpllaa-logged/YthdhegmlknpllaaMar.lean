/-
  The walk of Marked (8).
-/
import Derived.Test.YthdhegmlknpllaaMkp
namespace Go.Proofs.Ythdhegmlknpllaa
open Go.RowKit Go.Maps Go.MuLone

theorem mkT_some (s : Sto) (d : Int) (n a bb : Nat) (m : Int) : (mkT s d n a bb m).toList.isEmpty = false := by
  rw [ByteArray.toList_eq, List.isEmpty_eq_false_iff]
  intro e
  have e2 : (mkT s d n a bb m).data.toList.length = (mkT s d n a bb m).size := Array.length_toList
  rw [e] at e2
  unfold mkT streamT at e2
  rw [ByteArray.size_append] at e2
  have e3 : ∀ l, (chk l).ba.size = 4 := fun _ => rfl
  rw [e3] at e2
  simp at e2

theorem news_img (w : World) (x y z : Value) : ∀ j u, [x, y, z][j]? = some u → ((w.alloc (.cells #[x, y, z] 46)).alloc (.cells #[x, y, z] 46)).cell? ((⟨w.heap.size + 1, 0, none⟩ : Addr).add j) = some u := by
  have := heap_alloc_new (w.alloc (.cells #[x, y, z] 46)) (.cells #[x, y, z] 46)
  rw [show (w.alloc (.cells #[x, y, z] 46)).heap.size = w.heap.size + 1 by simp] at this
  exact World.news_of_block (cs := #[x, y, z]) (t := 46) (fr := (0, 0)) this

set_option maxRecDepth 100000 in
set_option maxHeartbeats 6400000 in
theorem marked_any (id blocks fr to : Int) (ao : Option Addr) (rows : List (Option Addr × List Int × Nat)) (cap : Nat) (w : World) (hi : In64 id) (hb : In64 blocks) (hfr : In64 fr) (hto : In64 to) (hr : RawsB w.heap.size w ao rows cap) :
    Calls Try.prog 8 #[.int .i64 id, .int .i64 blocks, .slice ao rows.length cap, .int .i64 fr, .int .i64 to] w fun e w' => e = .returned (.bool true) ∧ Below w.heap.size w w' := by
  obtain ⟨i0, hi0, hz0, hz1, hz2⟩ := info_parts info46
  have HS := store_any id blocks w hi hb
  have HP : Hid (∀ W, Calls Try.prog 15 #[.int .i64 blocks, .int .i64 16] W fun e w' => e = .returned (.int .i64 (pk blocks 16)) ∧ w' = W) := fun W => pick_any blocks 16 W hb (by omega) (by omega)
  have hnk : ((nOf blocks : Nat) : Int) = 1 + pk blocks 16 := by have := pk_lt blocks 16 (by omega); unfold nOf; omega
  have hid := idOf_ok id
  have hn := nOf_ok blocks
  have p1 := pk_lt blocks 16 (by omega)
  obtain ⟨y, hy⟩ : ∃ y, pk blocks 16 = y := ⟨_, rfl⟩
  obtain ⟨n, hnn⟩ : ∃ n, nOf blocks = n := ⟨_, rfl⟩
  obtain ⟨d, hd⟩ : ∃ d, idOf id = d := ⟨_, rfl⟩
  rw [hy] at HP hnk p1
  rw [hnn] at HS hnk hn
  rw [hd] at HS hid
  obtain ⟨B, hB⟩ : ∃ B, w.heap.size = B := ⟨_, rfl⟩
  have HB : Hid (B = w.heap.size ∧ RawsB B w ao rows cap ∧ In64 fr ∧ In64 to) := ⟨hB.symm, by rw [← hB]; exact hr, hfr, hto⟩
  rw [hB] at HS ⊢
  have q1 : IntKind.i64.wrap (1 + y) = (n : Int) := by rw [hnk]; exact wrap_fit ⟨by omega, by omega⟩
  have hcap := hr.le
  clear hy hnn hd hB hr hnk hfr hto
  go_enter Try.func8, Try.ntmps8
  go_wp2_with (first
    | (go_at_call 19; refine HS.mono ?_; rintro e w1 ⟨b, vb, mb, lv, rfl, r1, f1⟩
       have H0 : Hid (FroI B b w w1 d n 0 (.slice none 0 0)) := ⟨Sto.made d n vb mb lv, [], r1, Inv.made d n vb mb lv, f1, Im.nil _ _ _ _ _, rfl⟩
       clear r1 f1)
    | (go_at_call 15; refine (HP.out _).mono ?_; rintro e w' ⟨rfl, hw'⟩; have hw' := hw'.symm; subst hw'))
  go_loopw [13, 14] (fun vg i' wr => ∃ k : Nat, k ≤ 12 ∧ k ≤ rows.length ∧ i' = .int .i64 k ∧ Hid (FroI B b w wr d n k vg)) (fun _ i' _ => 12 - (intOf i').toNat)
  case atStart => exact ⟨0, Nat.zero_le _, Nat.zero_le _, rfl, H0⟩
  case round =>
    obtain ⟨k, hk, hkl, rfl, HK⟩ := hrel
    obtain ⟨W3, hW3⟩ : ∃ W3, W3 = wr := ⟨_, rfl⟩
    subst hW3
    clear H0 HS
    obtain ⟨s, l, hR, hI, hF, hM, hL⟩ := HK.out
    obtain ⟨ao9, cap9, hsh⟩ := own_shape hM.row
    rw [hL] at hsh
    subst hsh
    have HS : Hid (Rep B W3 b 0 s ∧ InvI s d n k ∧ Fr [] w W3 ∧ Im B W3 s d n l (.slice ao9 k cap9) ∧ l.length = k) := ⟨hR, hI, hF, hM, hL⟩
    clear hR hI hF hM hL HK
    by_cases hgo : k < rows.length ∧ k < 12
    · obtain ⟨hlt, hlt2⟩ := hgo
      have hltz : (k : Int) < (rows.length : Int) := by omega
      have hltz2 : (k : Int) < 12 := by omega
      have hRw := HB.out.2.1.fr HS.out.2.2.1 (by simp)
      obtain ⟨rb, off, hao, hrb, hc⟩ := hRw.at' (by omega)
      have d1 := hc k hlt
      have hr1 := hRw.row rows[k] (List.getElem_mem hlt)
      obtain ⟨r, hrr⟩ : ∃ r, rows[k] = r := ⟨_, rfl⟩
      rw [hrr] at d1 hr1
      subst hao
      have HT := takes_any B b s d n k r.1 r.2.1 r.2.2 W3 HS.out.1 HS.out.2.1 hlt2 hid hn hr1.1 hr1.2 k ⟨by omega, by omega⟩
      obtain ⟨a1, z1, c1⟩ := r
      simp only at d1 HT
      have hcz := hr1.1.1
      simp only at hcz
      clear hc hRw hr1 hrr
      go_wp2_with (first
        | (go_at_call 20; refine HT.mono ?_; rintro e w4 ⟨v, rfl, t4⟩
           obtain ⟨s', r4, i4, f4, m4, o4⟩ := fro_takes HB.out.1 HS.out.1 HS.out.2.2.1 HS.out.2.2.2.1 HS.out.2.2.2.2 t4
           have H4 : Hid (Rep B w4 b 0 s' ∧ InvI s' d n (k + 1) ∧ Fr [] w w4 ∧ Im B w4 s' d n l (.slice ao9 k cap9) ∧ w4.ownsRow B 9 1 v n (thS s' (gd d k) n)) := ⟨r4, i4, f4, m4, o4⟩
           obtain ⟨a8, c8, hv8⟩ := own_shape o4
           subst hv8
           unfold imgv
           have HO : Hid (w4.ownsRow B 46 3 (.slice ao9 k cap9) k (imC l)) := (by have := m4.row; rw [HS.out.2.2.2.2] at this; exact this)
           have hBW : B ≤ w4.heap.size := (by rw [HB.out.1]; exact f4.size)
           have HNW : Hid (∀ j u, [Value.int .i64 (d * 1000000 + ((k : Int) + 1)), .int .i64 (k : Int), .slice a8 n c8][j]? = some u → ((w4.alloc (.cells #[.int .i64 (d * 1000000 + ((k : Int) + 1)), .int .i64 (k : Int), .slice a8 n c8] 46)).alloc (.cells #[.int .i64 (d * 1000000 + ((k : Int) + 1)), .int .i64 (k : Int), .slice a8 n c8] 46)).cell? ((⟨w4.heap.size + 1, 0, none⟩ : Addr).add j) = some u) := news_img _ _ _ _
           clear t4 r4 i4 f4 m4 o4)
        | (at_builtin; refine wpList_append_own _ rfl _ _ 43 rfl B 46 i0 _ 3 40 Try.underlying43 hi0 hz0 hz1 hz2 rfl (by omega) (.slice ao9 k cap9) k (imC l) rfl ((HO.out.alloc _).alloc _) ⟨w4.heap.size + 1, 0, none⟩ 1 1 [.int .i64 (d * 1000000 + ((k : Int) + 1)), .int .i64 (k : Int), .slice a8 n c8] rfl rfl HNW.out (by simp [Value.oneCell']) (by unfold maxLen; omega) (by omega) (by simp; omega) ?_; intro v9 w9 hown9 hgrow9 hne9
           have H9 : Hid (FroI B b w w9 d n (k + 1) v9) := by
             have f9 : Fr (Value.slice ao9 k cap9).ownBlock.toList w4 w9 := (((Fr.refl _ _).alloc _).alloc _).grown hgrow9 (fun x hx => Or.inl (by simp [hx]))
             obtain ⟨r4, i4, f4, m4, o4⟩ := H4.out
             refine ⟨s', l ++ [(gd d l.length, (k : Int), .slice a8 n c8)], r4.kept f9 (fun x hx hm => own_foot r4 HO.out (by decide) x (by simpa using hm) hx), i4, f4.trans f9 (fun x hx => Or.inr (by rw [← HB.out.1]; exact (HO.out.lt x (by simpa using hx)).1)), ?_, by simp [HS.out.2.2.2.2]⟩
             refine (m4.kept0 (((Fr.refl _ _).alloc _).alloc _)).push (t := (k : Int)) (v := .slice a8 n c8) ?_ hgrow9 ?_
             · rw [HS.out.2.2.2.2]
               exact hown9
             · rw [HS.out.2.2.2.2]
               exact (o4.alloc _).alloc _
           clear hown9 hgrow9 hne9))
      go_roundw
      case rel => exact ⟨k + 1, by omega, by omega, by go_num, H9⟩
      case measure => simp [intOf]; omega
    · have hx : ¬ k < rows.length ∨ (k < rows.length ∧ ¬ k < 12) := by omega
      by_cases h2 : k < 2
      · have h2z : (k : Int) < 2 := by omega
        rcases hx with hx | hx
        · go_wp2
          go_ret
          exact ⟨rfl, HS.out.2.2.1.below (by rw [HB.out.1]; exact Nat.le_refl _) (by simp)⟩
        · omega
      · have h2z : ¬ (k : Int) < 2 := by omega
        obtain ⟨lg, hlg, hlc, _⟩ := own_addr (by have := HS.out.2.2.2.1.row; rw [HS.out.2.2.2.2] at this; exact this) (by omega : 0 < k)
        subst hlg
        obtain ⟨K1, hK1⟩ : ∃ K1, k - 1 = K1 := ⟨_, rfl⟩
        have e1 : IntKind.i64.wrap ((k : Int) - 1) = (K1 : Int) := by rw [show (k : Int) - 1 = (K1 : Int) by omega]; exact wrap_fit ⟨by omega, by omega⟩
        have pa := pk_lt fr K1 (by omega)
        obtain ⟨a, haa⟩ : ∃ a : Nat, pk fr K1 = (a : Int) := ⟨(pk fr K1).toNat, by omega⟩
        have HPa : Hid (∀ W, Calls Try.prog 15 #[.int .i64 fr, .int .i64 K1] W fun e w' => e = .returned (.int .i64 a) ∧ w' = W) := fun W => by
          have := pick_any fr K1 W HB.out.2.2.1 (by omega) (by omega)
          rw [haa] at this
          exact this
        obtain ⟨D, hD⟩ : ∃ D, K1 - a = D := ⟨_, rfl⟩
        have e2 : IntKind.i64.wrap ((K1 : Int) - (a : Int)) = (D : Int) := by rw [show (K1 : Int) - (a : Int) = (D : Int) by omega]; exact wrap_fit ⟨by omega, by omega⟩
        have pb := pk_lt to D (by omega)
        obtain ⟨p, hpp⟩ : ∃ p : Nat, pk to D = (p : Int) := ⟨(pk to D).toNat, by omega⟩
        have HPb : Hid (∀ W, Calls Try.prog 15 #[.int .i64 to, .int .i64 D] W fun e w' => e = .returned (.int .i64 p) ∧ w' = W) := fun W => by
          have := pick_any to D W HB.out.2.2.2 (by omega) (by omega)
          rw [hpp] at this
          exact this
        have e4 : IntKind.i64.wrap ((a : Int) + 1) = (a : Int) + 1 := wrap_fit ⟨by omega, by omega⟩
        obtain ⟨bb, hbb⟩ : ∃ bb, a + 1 + p = bb := ⟨_, rfl⟩
        have e3 : IntKind.i64.wrap ((a : Int) + 1 + (p : Int)) = (bb : Int) := by rw [show (a : Int) + 1 + (p : Int) = (bb : Int) by omega]; exact wrap_fit ⟨by omega, by omega⟩
        have hab : a < bb := by omega
        have hbk : bb < k := by omega
        have hak : a < k := by omega
        have haz : (a : Int) < (k : Int) := by omega
        have hbz : (bb : Int) < (k : Int) := by omega
        have a0 : (0 : Int) ≤ (a : Int) := by omega
        have b0 : (0 : Int) ≤ (bb : Int) := by omega
        have I := HS.out.2.1
        obtain ⟨x, hx1, _, _, _⟩ := inv_at I hbk
        have HMK : Hid (MK B b w W3 k lg cap9 l s) := ⟨HS.out.1, HS.out.2.2.1, by have := HS.out.2.2.2.1.row; rw [HS.out.2.2.2.2] at this; exact this⟩
        have HCe : Hid (∀ W s', MK B b w W k lg cap9 l s' → W.cell? ⟨lg, a * 3, none⟩ = some (.int .i64 (gd d a)) ∧ W.cell? ⟨lg, bb * 3, none⟩ = some (.int .i64 (gd d bb))) := fun W s' hW => ⟨hW.cell HS.out.2.2.2.2 (fun j hj => (HS.out.2.2.2.1.one j hj).1) hak, hW.cell HS.out.2.2.2.2 (fun j hj => (HS.out.2.2.2.1.one j hj).1) hbk⟩
        have HS1 : Hid (∀ W, MK B b w W k lg cap9 l s → _) := fun W hW => mk_send1 (W := W) HB.out.1 hid hn.2 (by omega) I hab hbk hx1 hW
        have HMa : Hid (∀ W, MK B b w W k lg cap9 l s → _) := fun W hW => mk_mark (W := W) HB.out.1 (by omega) I hak hW
        have HDe : Hid (∀ W s1, M1 s s1 d a → MK B b w W k lg cap9 l s1 → _) := fun W s1 m1 hW => mk_destroy (W := W) HB.out.1 hid hn.2 (by omega) I hak m1 hW
        have HS2 : Hid (∀ W s2, M2 s s2 d a → MK B b w W k lg cap9 l s2 → _) := fun W s2 m2 hW => mk_send2 (W := W) HB.out.1 hid hn.2 (by omega) I hab hbk hx1 m2 hW
        have HS3 : Hid (∀ W s2, M2 s s2 d a → MK B b w W k lg cap9 l s2 → _) := fun W s2 m2 hW => mk_send3 (W := W) HB.out.1 hid (by omega) I hab hbk hx1 m2 hW
        have HUn : Hid (∀ W s2, M2 s s2 d a → MK B b w W k lg cap9 l s2 → _) := fun W s2 m2 hW => mk_unmark (W := W) HB.out.1 m2 hW
        have HS4 : Hid (∀ W s2 s3, M2 s s2 d a → (s3.ss = s2.ss ∧ s3.ms = []) → MK B b w W k lg cap9 l s3 → _) := fun W s2 s3 m2 m3 hW => mk_send4 (W := W) HB.out.1 hid (by omega) I hab hbk hx1 m2 m3 hW
        have hTe := mkT_some s d n a bb x.time
        obtain ⟨T, hT⟩ : ∃ T, mkT s d n a bb x.time = T := ⟨_, rfl⟩
        rw [hT] at HS1 HS2 hTe
        obtain ⟨ga, hga⟩ : ∃ ga, gd d a = ga := ⟨_, rfl⟩
        obtain ⟨gb, hgb⟩ : ∃ gb, gd d bb = gb := ⟨_, rfl⟩
        rw [hga] at HCe HS1 HMa HDe HS2 HUn HS4
        rw [hgb] at HCe HS1 HS2 HS3 HS4
        have d1 := (HCe.out W3 s HMK.out).1
        have d2 := (HCe.out W3 s HMK.out).2
        clear I hx1 hT hga hgb haa hpp pa pb
        rcases hx with hx | hx
        all_goals
          go_wp2_with (first
            | (go_at_call_of 15 (Value.int .i64 fr); refine (HPa.out _).mono ?_; rintro e w' ⟨rfl, hw'⟩; have hw' := hw'.symm; subst hw')
            | (go_at_call_of 15 (Value.int .i64 to); refine (HPb.out _).mono ?_; rintro e w' ⟨rfl, hw'⟩; have hw' := hw'.symm; subst hw'))
          have dd1 : W3.drew.cell? ⟨lg, a * 3, none⟩ = some (.int .i64 ga) := d1
          have dd2 : W3.drew.cell? ⟨lg, bb * 3, none⟩ = some (.int .i64 gb) := d2
          go_region_held3 (fun w' => w'.cell? ⟨lg, a * 3, none⟩ = some (.int .i64 ga) ∧ w'.cell? ⟨lg, bb * 3, none⟩ = some (.int .i64 gb))
            (first
              | go_keep
              | exact ⟨dd1, dd2⟩
              | exact HCe.out _ _ H5.out)
            (first
              | (go_at_call 31; refine (HS1.out _ (HMK.out.step0 (Fr.refl _ _).drew)).mono ?_; rintro e w5 ⟨rfl, r5⟩; have H5 : Hid (MK B b w w5 k lg cap9 l s) := r5; clear r5))
          clear dd1 dd2 d1 d2
          have c5 := (HCe.out _ _ H5.out).1
          go_wp2_with (first
            | (go_at_call 26; refine (HMa.out _ H5.out).mono ?_; rintro e w6 ⟨rfl, s1, m1, r6⟩; have H6 : Hid (M1 s s1 d a ∧ MK B b w w6 k lg cap9 l s1) := ⟨m1, r6⟩; have c6 := (HCe.out _ _ r6).1; clear m1 r6)
            | (go_at_call 27; refine (HDe.out _ _ H6.out.1 H6.out.2).mono ?_; rintro e w7 ⟨rfl, s2, m2, r7⟩; have H7 : Hid (M2 s s2 d a ∧ MK B b w w7 k lg cap9 l s2) := ⟨m2, r7⟩; clear m2 r7))
          clear c5 c6
          have dd1 : w7.drew.cell? ⟨lg, a * 3, none⟩ = some (.int .i64 ga) := (HCe.out _ _ H7.out.2).1
          have dd2 : w7.drew.cell? ⟨lg, bb * 3, none⟩ = some (.int .i64 gb) := (HCe.out _ _ H7.out.2).2
          go_region_held3 (fun w' => w'.cell? ⟨lg, a * 3, none⟩ = some (.int .i64 ga) ∧ w'.cell? ⟨lg, bb * 3, none⟩ = some (.int .i64 gb))
            (first
              | go_keep
              | exact ⟨dd1, dd2⟩
              | exact HCe.out _ _ H8.out)
            (first
              | (go_at_call 31; refine (HS2.out _ _ H7.out.1 (H7.out.2.step0 (Fr.refl _ _).drew)).mono ?_; rintro e w8 ⟨rfl, r8⟩; have H8 : Hid (MK B b w w8 k lg cap9 l s2) := r8; clear r8))
          clear dd1 dd2
          go_wp2
          have dd2 : w8.drew.cell? ⟨lg, bb * 3, none⟩ = some (.int .i64 gb) := (HCe.out _ _ H8.out).2
          go_region_held3 (fun w' => w'.cell? ⟨lg, bb * 3, none⟩ = some (.int .i64 gb))
            (first
              | go_keep
              | exact dd2
              | exact (HCe.out _ _ H9.out).2)
            (first
              | (go_at_call 31; refine (HS3.out _ _ H7.out.1 (H8.out.step0 (Fr.refl _ _).drew)).mono ?_; rintro e w9 ⟨rfl, r9⟩; have H9 : Hid (MK B b w w9 k lg cap9 l s2) := r9; clear r9))
          clear dd2
          have c9 := (HCe.out _ _ H9.out).1
          go_wp2_with (first
            | (go_at_call 34; refine (HUn.out _ _ H7.out.1 H9.out).mono ?_; rintro e w10 ⟨rfl, s3, m3, r10⟩; have H10 : Hid ((s3.ss = s2.ss ∧ s3.ms = []) ∧ MK B b w w10 k lg cap9 l s3) := ⟨m3, r10⟩; clear m3 r10))
          clear c9
          have dd1 : w10.drew.cell? ⟨lg, a * 3, none⟩ = some (.int .i64 ga) := (HCe.out _ _ H10.out.2).1
          have dd2 : w10.drew.cell? ⟨lg, bb * 3, none⟩ = some (.int .i64 gb) := (HCe.out _ _ H10.out.2).2
          go_region_held3 (fun w' => w'.cell? ⟨lg, a * 3, none⟩ = some (.int .i64 ga) ∧ w'.cell? ⟨lg, bb * 3, none⟩ = some (.int .i64 gb))
            (first
              | go_keep
              | exact ⟨dd1, dd2⟩
              | exact HCe.out _ _ H11.out)
            (first
              | (go_at_call 31; refine (HS4.out _ _ _ H7.out.1 H10.out.1 (H10.out.2.step0 (Fr.refl _ _).drew)).mono ?_; rintro e w11 ⟨rfl, r11⟩; have H11 : Hid (MK B b w w11 k lg cap9 l s3) := r11; clear r11))
          clear dd1 dd2
          go_wp2
          go_ret
          exact ⟨by first | rfl | simp [hTe], H11.out.fr.below (by rw [HB.out.1]; exact Nat.le_refl _) (by simp)⟩
end Go.Proofs.Ythdhegmlknpllaa
