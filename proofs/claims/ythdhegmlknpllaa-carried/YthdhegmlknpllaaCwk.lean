/-
  The walk of tetherkeep's Carried (7).
-/
import Derived.Test.YthdhegmlknpllaaCar
import Derived.Deep.CutRange
namespace Go.Proofs.Ythdhegmlknpllaa
open Go.RowKit Go.Maps Go.MuLone

theorem BRow.at {w : World} {base g cap n : Nat} {l : List UInt8} (h : BRow w base (.slice (some ⟨g, 0, none⟩) n cap) l) (p : Nat) (hp : p < l.length) : w.cell? ⟨g, p, none⟩ = some (.int .u8 (l[p].toNat : Int)) ∧ w.frozen? ⟨g, p, none⟩ = false ∧ l.length ≤ cap := by
  obtain ⟨g', cap', e, hb, hg, hc, h1, h2⟩ := h
  obtain ⟨rfl, rfl⟩ : g = g' ∧ cap = cap' := by
    have := Value.slice.inj e
    exact ⟨by simpa using this.1, this.2.2⟩
  refine ⟨?_, (h2 p (by omega)).2, hc⟩
  rw [h1 p hp]
  simp [logC, u8, hp]

set_option maxRecDepth 100000 in
set_option maxHeartbeats 12800000 in
theorem carried_any (id blocks cut at' by' : Int) (ao ao2 : Option Addr) (rows : List (Option Addr × List Int × Nat)) (cap cap2 : Nat) (zs : List Int) (w : World) (hi : In64 id) (hb : In64 blocks) (hcu : In64 cut) (hat : In64 at') (hby : In64 by') (hr : RawsB w.heap.size w ao rows cap) (hr2 : RowB w.heap.size w ao2 zs cap2) (hz2 : Bnd zs) :
    Calls Try.prog 7 #[.int .i64 id, .int .i64 blocks, .slice ao rows.length cap, .slice ao2 zs.length cap2, .int .i64 cut, .int .i64 at', .int .i64 by'] w fun e w' => e = .returned (.bool true) ∧ Below w.heap.size w w' := by
  obtain ⟨id2, hid2⟩ : ∃ id2, IntKind.i64.wrap (id + 1) = id2 := ⟨_, rfl⟩
  have hi2 : In64 id2 := by
    rw [← hid2]
    unfold In64 IntKind.wrap IntKind.bits IntKind.signed
    simp
    omega
  have HS1 := store_any id blocks w hi hb
  have HS2 : Hid (∀ W, Calls Try.prog 19 #[.int .i64 id2, .int .i64 blocks] W fun e w' => ∃ b vb mb lv, e = .returned (.pointer (some ⟨b, 0, none⟩)) ∧ Rep W.heap.size w' b 0 (Sto.made (idOf id2) (nOf blocks) vb mb lv) ∧ Fr [] W w') := fun W => store_any id2 blocks W hi2 hb
  have HP : Hid (∀ W, Calls Try.prog 15 #[.int .i64 blocks, .int .i64 16] W fun e w' => e = .returned (.int .i64 (pk blocks 16)) ∧ w' = W) := fun W => pick_any blocks 16 W hb (by omega) (by omega)
  have hnk : ((nOf blocks : Nat) : Int) = 1 + pk blocks 16 := by have := pk_lt blocks 16 (by omega); unfold nOf; omega
  have hd := idOf_ok id
  have hn := nOf_ok blocks
  have p1 := pk_lt blocks 16 (by omega)
  obtain ⟨y, hy⟩ : ∃ y, pk blocks 16 = y := ⟨_, rfl⟩
  obtain ⟨n, hnn⟩ : ∃ n, nOf blocks = n := ⟨_, rfl⟩
  obtain ⟨d, hdd⟩ : ∃ d, idOf id = d := ⟨_, rfl⟩
  rw [hy] at HP hnk p1
  rw [hnn] at HS1 HS2 hnk hn
  rw [hdd] at HS1 hd
  obtain ⟨B, hB⟩ : ∃ B, w.heap.size = B := ⟨_, rfl⟩
  have HB : Hid (B = w.heap.size ∧ RawsB B w ao rows cap ∧ RowB B w ao2 zs cap2 ∧ Bnd zs ∧ In64 cut ∧ In64 at' ∧ In64 by') := ⟨hB.symm, by rw [← hB]; exact hr, by rw [← hB]; exact hr2, hz2, hcu, hat, hby⟩
  rw [hB] at HS1 ⊢
  have q1 : IntKind.i64.wrap (1 + y) = (n : Int) := by rw [hnk]; exact wrap_fit ⟨by omega, by omega⟩
  have hcap := hr.le
  have HS1' : Hid (Calls Try.prog 19 #[.int .i64 id, .int .i64 blocks] w fun e w' => ∃ b vb mb lv, e = .returned (.pointer (some ⟨b, 0, none⟩)) ∧ Rep B w' b 0 (Sto.made d n vb mb lv) ∧ Fr [] w w') := HS1
  clear hy hnn hdd hB hr hnk hr2 hz2 hcu hat hby HS1
  go_enter Try.func7, Try.ntmps7
  go_wp2_with (first
    | (go_at_call_of 19 (Value.int .i64 id); refine HS1'.out.mono ?_; rintro e w1 ⟨b1, vb, mb, lv, rfl, r1, f1⟩
       have H1 : Hid (Rep B w1 b1 0 (Sto.made d n vb mb lv) ∧ Fr [] w w1) := ⟨r1, f1⟩
       clear r1 f1)
    | (go_at_call_of 19 (Value.int .i64 id2); refine (HS2.out _).mono ?_; rintro e w2 ⟨b2, vb2, mb2, lv2, rfl, r2, f2⟩
       have H0 : Hid (Two B b1 b2 w w2 (Sto.made d n vb mb lv) (Sto.made (idOf id2) n vb2 mb2 lv2)) := (by have h1 := H1.out.1; rw [HB.out.1] at h1 ⊢; exact two_made h1 H1.out.2 r2 f2)
       clear r2 f2)
    | (go_at_call 15; refine (HP.out _).mono ?_; rintro e w' ⟨rfl, hw'⟩; have hw' := hw'.symm; subst hw'))
  go_loopw [18, 19] (fun lst i' wr => ∃ (k : Nat) (last : Int), k ≤ 12 ∧ k ≤ rows.length ∧ i' = .int .i64 k ∧ lst = .int .i64 last ∧ Hid (∃ s r q, Two B b1 b2 w wr s r ∧ InvI s d n k ∧ WU s d n k ∧ RI r s d n k q last (7 + 200 * q))) (fun _ i' _ => 12 - (intOf i').toNat)
  case atStart => exact ⟨0, 0, Nat.zero_le _, Nat.zero_le _, rfl, rfl, _, _, 0, H0.out, Inv.made d n vb mb lv, WU.made d n vb mb lv, RI.made _ d _ n vb2 mb2 lv2⟩
  case round =>
    obtain ⟨k, last, hk, hkl, rfl, rfl, HK⟩ := hrel
    obtain ⟨W3, hW3⟩ : ∃ W3, W3 = wr := ⟨_, rfl⟩
    subst hW3
    clear H0 H1 HS1' HS2 hid2
    obtain ⟨s, r, q, hT2, hI, hU, hR⟩ := HK.out
    have HS : Hid (Two B b1 b2 w W3 s r ∧ InvI s d n k ∧ WU s d n k ∧ RI r s d n k q last (7 + 200 * q)) := ⟨hT2, hI, hU, hR⟩
    clear hT2 hI hU hR HK
    by_cases hgo : k < rows.length ∧ k < 12
    · obtain ⟨hlt, hlt2⟩ := hgo
      have hltz : (k : Int) < (rows.length : Int) := by omega
      have hltz2 : (k : Int) < 12 := by omega
      have e10 : IntKind.i64.wrap (10 * (k : Int)) = 10 * (k : Int) := wrap_fit ⟨by omega, by omega⟩
      have hRw := HB.out.2.1.fr HS.out.1.fr (by simp)
      obtain ⟨rb, off, hao, hrb, hc⟩ := hRw.at' (by omega)
      have d1 := hc k hlt
      have hr1 := hRw.row rows[k] (List.getElem_mem hlt)
      obtain ⟨rr, hrr⟩ : ∃ r, rows[k] = r := ⟨_, rfl⟩
      rw [hrr] at d1 hr1
      subst hao
      have HT : Hid (Calls Try.prog 20 #[.pointer (some ⟨b1, 0, none⟩), .int .i64 n, .slice rr.1 rr.2.1.length rr.2.2, .int .i64 (10 * (k : Int))] W3 fun e w' => ∃ v, e = .returned (.tuple #[imgv (d * 1000000 + ((k : Int) + 1)) (10 * (k : Int)) v, .bool true]) ∧ TakesAll B b1 s d n k (10 * (k : Int)) W3 w' v) := takes_all B b1 s d n k rr.1 rr.2.1 rr.2.2 W3 HS.out.1.rs HS.out.2.1 hlt2 hd hn hr1.1 hr1.2 (10 * (k : Int)) ⟨by omega, by omega⟩
      obtain ⟨a1, z1, c1⟩ := rr
      simp only at d1 HT
      have hcz := hr1.1.1
      simp only at hcz
      clear hc hRw hr1 hrr
      have hr3 := HB.out.2.2.1
      have hz3 : In64 (tm zs k) := by
        by_cases hkz : k < zs.length
        · exact HB.out.2.2.2.1 k hkz
        · unfold tm
          rw [List.getElem?_eq_none (by omega)]
          exact ⟨by decide, by decide⟩
      obtain ⟨z3, hzz3⟩ : ∃ z3, tm zs k = z3 := ⟨_, rfl⟩
      have HN : Hid (∀ W, Fr [] w W → Calls Try.prog 30 #[.slice ao2 zs.length cap2, .int .i64 k] W fun e w' => e = .returned (.int .i64 z3) ∧ w' = W) := fun W hW => by
        have := nth_any B ao2 zs cap2 k W (hr3.fr hW (by simp))
        rw [hzz3] at this
        exact this
      have HP3 : Hid (∀ W, Calls Try.prog 15 #[.int .i64 z3, .int .i64 3] W fun e w' => e = .returned (.int .i64 (pk z3 3)) ∧ w' = W) := fun W => by
        rw [← hzz3]
        exact pick_any (tm zs k) 3 W hz3 (by omega) (by omega)
      obtain ⟨k3, hk3⟩ : ∃ k3, pk z3 3 = k3 := ⟨_, rfl⟩
      rw [hk3] at HP3
      clear hr3 hz3 hzz3 hk3
      have hcase : ((last != 0) = true ∧ (k3 == 0) = true) ∨ ((last != 0) = false ∨ ((last != 0) = true ∧ (k3 == 0) = false)) := by
        cases (last != 0) <;> cases (k3 == 0) <;> simp
      rcases hcase with ⟨h1, h2⟩ | hmain
      · go_wp2_with (first
          | (go_at_call 20; refine HT.out.mono ?_; rintro e w4 ⟨v, rfl, t4⟩
             obtain ⟨S, x, c, t2, i4, u4, r4, hx4, sd4, o4⟩ := c_takes HB.out.1 hd hn hlt2 HS.out.1 HS.out.2.1 HS.out.2.2.1 HS.out.2.2.2 t4
             obtain ⟨a8, c8, hv8⟩ := own_shape o4
             subst hv8
             have H4 : Hid (CS B b1 b2 w4.heap.size w (w4.alloc (.cells #[.int .i64 (gd d k), .int .i64 (10 * (k : Int)), .slice a8 n c8] 46)) d n k S r (.slice a8 n c8)) := ⟨t2.same ((Fr.refl _ _).alloc _), heap_alloc_new w4 _, o4.alloc _⟩
             have HQ : Hid (InvI S d n (k + 1) ∧ WU S d n (k + 1) ∧ RI r S d n k q last (7 + 200 * q) ∧ S.ss[k]? = some x ∧ SD S r d n k last c x.time) := ⟨i4, u4, r4, hx4, sd4⟩
             unfold imgv
             have hgg : d * 1000000 + ((k : Int) + 1) = gd d k := rfl
             rw [hgg]
             clear t4 t2 i4 u4 r4 hx4 sd4 o4 hgg)
          | (go_at_call 30; refine (HN.out _ H4.out.two.fr).mono ?_; rintro e w' ⟨rfl, hw'⟩; have hw' := hw'.symm; subst hw')
          | (go_at_call_of 15 (Value.int .i64 z3); refine (HP3.out _).mono ?_; rintro e w' ⟨rfl, hw'⟩; have hw' := hw'.symm; subst hw'))
        go_roundw
        case rel => exact ⟨k + 1, last, by omega, by omega, by go_num, rfl, S, r, q, H4.out.two, HQ.out.1, HQ.out.2.1, HQ.out.2.2.1.more⟩
        case measure => simp [intOf]; omega
      · rcases hmain with h1 | ⟨h1, h2⟩
        all_goals
          go_wp2_with (first
            | (go_at_call 20; refine HT.out.mono ?_; rintro e w4 ⟨v, rfl, t4⟩
               obtain ⟨S, x, c, t2, i4, u4, r4, hx4, sd4, o4⟩ := c_takes HB.out.1 hd hn hlt2 HS.out.1 HS.out.2.1 HS.out.2.2.1 HS.out.2.2.2 t4
               obtain ⟨a8, c8, hv8⟩ := own_shape o4
               subst hv8
               have H4 : Hid (CS B b1 b2 w4.heap.size w (w4.alloc (.cells #[.int .i64 (gd d k), .int .i64 (10 * (k : Int)), .slice a8 n c8] 46)) d n k S r (.slice a8 n c8)) := ⟨t2.same ((Fr.refl _ _).alloc _), heap_alloc_new w4 _, o4.alloc _⟩
               have HQ : Hid (InvI S d n (k + 1) ∧ WU S d n (k + 1) ∧ RI r S d n k q last (7 + 200 * q) ∧ S.ss[k]? = some x ∧ SD S r d n k last c x.time) := ⟨i4, u4, r4, hx4, sd4⟩
               have b4 : (w4.alloc (.cells #[.int .i64 (gd d k), .int .i64 (10 * (k : Int)), .slice a8 n c8] 46)).cell? ⟨w4.heap.size, 0, none⟩ = some (.int .i64 (gd d k)) := (by rw [cell_of H4.out.box]; rfl)
               unfold imgv
               have hgg : d * 1000000 + ((k : Int) + 1) = gd d k := rfl
               rw [hgg]
               clear t4 t2 i4 u4 r4 hx4 sd4 o4 hgg)
            | (go_at_call 30; refine (HN.out _ H4.out.two.fr).mono ?_; rintro e w' ⟨rfl, hw'⟩; have hw' := hw'.symm; subst hw')
            | (go_at_call_of 15 (Value.int .i64 z3); refine (HP3.out _).mono ?_; rintro e w' ⟨rfl, hw'⟩; have hw' := hw'.symm; subst hw')
            | (go_at_call 31; refine (c_send HB.out.1 hd hn hlt2 HQ.out.1 HQ.out.2.2.2.1 rfl HQ.out.2.2.2.2 H4.out).mono ?_; rintro e w5 ⟨rfl, r5⟩
               have H5 : Hid (CS B b1 b2 w4.heap.size w w5 d n k S r (.slice a8 n c8)) := r5
               have hsz := streamT_size last (gd d k) x.time n (flw S (gd d k) c n)
               have hlen := HQ.out.2.2.2.2.may.len
               obtain ⟨T, hTT⟩ : ∃ T, streamT last (gd d k) x.time n (flw S (gd d k) c n) = T := ⟨_, rfl⟩
               have HTE : Hid (streamT last (gd d k) x.time n (flw S (gd d k) c n) = T) := hTT
               rw [hTT]
               rw [hTT] at hsz
               have hTe : T.toList.isEmpty = false := (by rw [ByteArray.toList_eq]; cases hl : T.data.toList with | nil => (have : T.data.toList.length = 0 := (by rw [hl]; rfl)); rw [Array.length_toList] at this; exact absurd (show T.size = 0 from this) (by omega) | cons _ _ => rfl)
               obtain ⟨v8, w8, hc8, br8, f8⟩ := brow_of w5 T
               obtain ⟨g8, cap8, hv8, hg8, hg8'⟩ := br8.shape
               subst hv8
               have hTl : T.data.toList.length = T.size := Array.length_toList
               obtain ⟨N, hN⟩ : ∃ N, T.size = N := ⟨_, rfl⟩
               rw [hN] at hsz hTl
               rw [hTl] at hc8 br8
               have H8 : Hid (BRow w8 w5.heap.size (.slice (some ⟨g8, 0, none⟩) N cap8) T.data.toList ∧ Fr [] w5 w8 ∧ T.data.toList.length = N ∧ T.size = N ∧ w5.heap.size ≤ g8) := ⟨br8, f8, hTl, hN, hg8⟩
               have hNb : 22 ≤ N ∧ N ≤ 102 := (by omega)
               have pa := pk_lt at' N (by omega)
               obtain ⟨p, hp⟩ : ∃ p : Nat, pk at' N = (p : Int) := ⟨(pk at' N).toNat, (by omega)⟩
               have HPa : Hid (∀ W, Calls Try.prog 15 #[.int .i64 at', .int .i64 N] W fun e w' => e = .returned (.int .i64 p) ∧ w' = W) := fun W => (by rw [← hp]; exact pick_any at' N W HB.out.2.2.2.2.2.1 (by omega) (by omega))
               rw [hp] at pa
               clear r5 hsz hlen hTT br8 f8 hg8 hg8' hTl hp)
            | (go_at_call_of 15 (Value.int .i64 at'); refine (HPa.out _).mono ?_; rintro e w' ⟨rfl, hw'⟩; have hw' := hw'.symm; subst hw'))
          have hpN : p < N := by omega
          have hpl : p < T.data.toList.length := by rw [H8.out.2.2.1]; exact hpN
          have hBA := H8.out.1.at p hpl
          obtain ⟨xb, hxb⟩ : ∃ xb, T.data.toList[p] = xb := ⟨_, rfl⟩
          rw [hxb] at hBA
          obtain ⟨cB, fB, lB⟩ := hBA
          rw [H8.out.2.2.1] at lB
          have pb := pk_lt by' 255 (by omega)
          obtain ⟨zb, hzb⟩ : ∃ zb, pk by' 255 = zb := ⟨_, rfl⟩
          have HPb : Hid (∀ W, Calls Try.prog 15 #[.int .i64 by', .int .i64 255] W fun e w' => e = .returned (.int .i64 zb) ∧ w' = W) := fun W => by
            rw [← hzb]
            exact pick_any by' 255 W HB.out.2.2.2.2.2.2 (by omega) (by omega)
          rw [hzb] at pb
          obtain ⟨z1, hz1⟩ : ∃ z1 : Nat, 1 + zb = (z1 : Int) := ⟨(1 + zb).toNat, by omega⟩
          have e1 : IntKind.i64.wrap (1 + zb) = (z1 : Int) := by rw [hz1]; exact wrap_fit ⟨by omega, by omega⟩
          have e2 : IntKind.u8.wrap (z1 : Int) = (z1 : Int) := by simp [IntKind.wrap, IntKind.bits, IntKind.signed]; omega
          have e3 : (z1 : Int) % 256 = (z1 : Int) := by omega
          obtain ⟨yb, hyb, hxr⟩ := xor_byte xb z1 ⟨by omega, by omega⟩
          have hpz : (p : Int) < (N : Int) := by omega
          have HY : Hid (∃ h : p < T.data.toList.length, yb ≠ T.data.toList[p]) := ⟨hpl, by rw [hxb]; exact hyb⟩
          clear hxb hzb hz1 hyb hpl
          go_cut [25] from 54 to 203 (fun s25 wx => s25 = .int .i64 p ∧ wx = (w8.setCell ⟨g8, p, none⟩ (.int .u8 (yb.toNat : Int))).drew)
          case first =>
            go_region_with (go_at_call_of 15 (Value.int .i64 by'); refine (HPb.out _).mono ?_; rintro e w' ⟨rfl, hw'⟩; have hw' := hw'.symm; subst hw')
            all_goals
              go_wp2_with fail
              go_meet
              exact ⟨rfl, rfl⟩
          case rest =>
          obtain ⟨rfl, hwc⟩ := hcut
          obtain ⟨w9, hw9⟩ : ∃ w9, (w8.setCell ⟨g8, p, none⟩ (.int .u8 (yb.toNat : Int))).drew = w9 := ⟨_, rfl⟩
          rw [hw9] at hwc
          subst hwc
          have f59 : Fr [] w5 wc := by rw [← hw9]; exact ((H8.out.2.1).setCell _ (Or.inr H8.out.2.2.2.2)).drew
          have H9 : Hid (CS B b1 b2 w4.heap.size w wc d n k S r (.slice a8 n c8)) := H5.out.same f59
          obtain ⟨T2, hT2⟩ : ∃ T2, ofL (T.data.toList.set p yb) = T2 := ⟨_, rfl⟩
          have HCT : Hid (∀ W, Fr (foot b2 r) wc W → (convert 63 9 (.slice (some ⟨g8, 0, none⟩) N cap8)).run Try.prog W = .ok (.string T2) W) := fun W hW => by
            obtain ⟨hpl, _⟩ := HY.out
            have h8 := H8.out.1
            rw [← H8.out.2.2.1] at h8
            have h9 := (h8.set p hpl yb).fr (F := []) ((Fr.refl _ _).drew) (by simp)
            rw [hw9, H8.out.2.2.1] at h9
            have h10 := (h9.fr hW (fun j hj e => by
              have h1 := (H5.out.two.rr.lt j hj).2
              have h2 : g8 = j := by simpa [Value.ownBlock] using e
              have h3 := H8.out.2.2.2.2
              omega)).text
            rw [← hT2]
            exact h10
          have pc := pk_lt cut N (by omega)
          obtain ⟨p2, hp2⟩ : ∃ p2 : Nat, pk cut N = (p2 : Int) := ⟨(pk cut N).toNat, by omega⟩
          have HPc : Hid (∀ W, Calls Try.prog 15 #[.int .i64 cut, .int .i64 N] W fun e w' => e = .returned (.int .i64 p2) ∧ w' = W) := fun W => by
            rw [← hp2]
            exact pick_any cut N W HB.out.2.2.2.2.1 (by omega) (by omega)
          rw [hp2] at pc
          have hp2z : (p2 : Int) ≤ (N : Int) := by omega
          have hp20 : (0 : Int) ≤ (p2 : Int) := by omega
          have hq12 : q ≤ 12 := by have := HQ.out.2.2.1.le; omega
          have HR1 : Hid (∀ W, CS B b1 b2 w4.heap.size w W d n k S r (.slice a8 n c8) → Calls Try.prog 32 #[.pointer (some ⟨b2, 0, none⟩), .string (T.extract 0 p2)] W fun e w' => e = .returned (.tuple #[.int .i64 0, .int .i64 2]) ∧ CS B b1 b2 w4.heap.size w w' d n k S r (.slice a8 n c8) ∧ Fr (foot b2 r) W w') := fun W hW => c_form HB.out.1 _ (fun W' => by rw [← HTE.out]; exact parse_cut _ _ _ _ _ HQ.out.2.2.2.2.may.len p2 (by rw [HTE.out, H8.out.2.2.2.1]; omega) W') hW
          have HR2 : Hid (∀ W, CS B b1 b2 w4.heap.size w W d n k S r (.slice a8 n c8) → Calls Try.prog 32 #[.pointer (some ⟨b2, 0, none⟩), .string T2] W fun e w' => e = .returned (.tuple #[.int .i64 0, .int .i64 2]) ∧ CS B b1 b2 w4.heap.size w w' d n k S r (.slice a8 n c8) ∧ Fr (foot b2 r) W w') := fun W hW => c_form HB.out.1 _ (fun W' => by
            obtain ⟨hpl, hne⟩ := HY.out
            rw [← hT2]
            have ht := HTE.out
            subst ht
            exact parse_turned _ _ _ _ _ HQ.out.2.2.2.2.may.len p yb hpl hne W') hW
          have HWr : Hid (∀ W, CS B b1 b2 w4.heap.size w W d n k S r (.slice a8 n c8) → Calls Try.prog 22 #[.pointer (some ⟨b2, 0, none⟩), .int .i64 0, .string ⟨#[108, 111, 115, 116]⟩] W fun e w' => e = .returned (.int .i64 0) ∧ ∃ lv, CS B b1 b2 w4.heap.size w w' d n k S ((r.write 0 lostB).noted 87 (wtext 0 lostB) lv) (.slice a8 n c8)) := fun W hW => c_write HB.out.1 hn (by omega) HQ.out.2.2.1 hW
          have HR3 : Hid (∀ W lv, CS B b1 b2 w4.heap.size w W d n k S ((r.write 0 lostB).noted 87 (wtext 0 lostB) lv) (.slice a8 n c8) → Calls Try.prog 32 #[.pointer (some ⟨b2, 0, none⟩), .string T] W fun e w' => e = .returned (.tuple #[.int .i64 (gd d k), .int .i64 0]) ∧ ∃ r2, CS B b1 b2 w4.heap.size w w' d n k S r2 (.slice a8 n c8) ∧ RI r2 S d n (k + 1) (q + 1) (gd d k) (7 + 200 * (q + 1)) ∧ (r2.vol.getD 0 Ct.zero).x = (S.th (gd d k) 0).x) := fun W lv hW => by
            have R3 := HQ.out.2.2.1.write 0 lostB lv
            have hsz := streamT_size last (gd d k) x.time n (flw S (gd d k) c n)
            have hlen := HQ.out.2.2.2.2.may.len
            have := c_recv HB.out.1 hd hn hlt2 (by omega) R3 HQ.out.2.2.2.2 hW
            rw [HTE.out] at this hsz
            refine this.mono ?_
            rintro e w' ⟨rfl, sv, lv', h1⟩
            have R4 := R3.recv HQ.out.2.2.2.2 rfl hn.2 T (by omega) sv lv'
            refine ⟨rfl, _, h1, ⟨R4.vol, R4.ss, R4.le, R4.cm, R4.ms, R4.cnt, by have := R4.lg; omega, R4.gs, R4.lst, R4.was⟩, ?_⟩
            exact HQ.out.2.2.2.2.x _ R3.vol rfl 0 (by omega)
          have HIs : Hid (∀ W r2, RI r2 S d n (k + 1) (q + 1) (gd d k) (7 + 200 * (q + 1)) → CS B b1 b2 w4.heap.size w W d n k S r2 (.slice a8 n c8) → Calls Try.prog 21 #[.agg #[.int .i64 (gd d k), .int .i64 (10 * (k : Int)), .slice a8 n c8], .pointer (some ⟨b2, 0, none⟩)] W fun e w' => e = .returned (.bool true) ∧ CS B b1 b2 w4.heap.size w w' d n k S r2 (.slice a8 n c8)) := fun W r2 hR hW => c_is HB.out.1 hd hn hlt2 hR hW
          have HVo : Hid (∀ W r2, RI r2 S d n (k + 1) (q + 1) (gd d k) (7 + 200 * (q + 1)) → CS B b1 b2 w4.heap.size w W d n k S r2 (.slice a8 n c8) → Calls Try.prog 33 #[.pointer (some ⟨b2, 0, none⟩), .int .i64 n] W fun e w' => ∃ v2, e = .returned (.tuple #[v2, .bool true]) ∧ w'.ownsRow W.heap.size 9 1 v2 n (strs r2.vol) ∧ CS B b1 b2 w4.heap.size w w' d n k S r2 (.slice a8 n c8)) := fun W r2 hR hW => c_vol HB.out.1 hn hR.vol hW
          have HDu : Hid (∀ W r2 base v2 ys, RI r2 S d n (k + 1) (q + 1) (gd d k) (7 + 200 * (q + 1)) → W.ownsRow base 9 1 v2 n ys → CS B b1 b2 w4.heap.size w W d n k S r2 (.slice a8 n c8) → Calls Try.prog 32 #[.pointer (some ⟨b2, 0, none⟩), .string T] W fun e w' => e = .returned (.tuple #[.int .i64 0, .int .i64 7]) ∧ CS B b1 b2 w4.heap.size w w' d n k S r2 (.slice a8 n c8) ∧ w'.ownsRow base 9 1 v2 n ys) := fun W r2 base v2 ys hR ho hW => by
            have := c_dup HB.out.1 hd hlt2 hR HQ.out.2.2.2.2 ho hW
            rw [HTE.out] at this
            exact this
          clear hw9 f59 hT2 hp2 cB fB e1 e2 e3 hxr b4 hc8
          go_wp2_with (first
            | (go_at_call 32; refine (HDu.out _ _ _ _ _ H13.out.2.1 H15.out.1 H15.out.2).mono ?_; rintro e w16 ⟨rfl, r16, o16⟩
               have H16 : Hid (CS B b1 b2 w4.heap.size w w16 d n k S r2 (.slice a8 n c8) ∧ w16.ownsRow w14.heap.size 9 1 (.slice a2 n c2) n (strs r2.vol)) := ⟨r16, o16⟩
               clear r16 o16)
            | (go_at_call 33; refine (HVo.out _ _ H13.out.2.1 H14.out).mono ?_; rintro e w15 ⟨v2, rfl, o15, r15⟩
               obtain ⟨a2, c2, hv2⟩ := own_shape o15
               subst hv2
               have H15 : Hid (w15.ownsRow w14.heap.size 9 1 (.slice a2 n c2) n (strs r2.vol) ∧ CS B b1 b2 w4.heap.size w w15 d n k S r2 (.slice a8 n c8)) := ⟨o15, r15⟩
               clear o15 r15)
            | (go_at_call 21; refine (HIs.out _ _ H13.out.2.1 H13.out.1).mono ?_; rintro e w14 ⟨rfl, r14⟩
               have H14 : Hid (CS B b1 b2 w4.heap.size w w14 d n k S r2 (.slice a8 n c8)) := r14
               clear r14)
            | (go_at_call 32; refine (HR3.out _ _ H12.out).mono ?_; rintro e w13 ⟨rfl, r2, r13, i13, x13⟩
               have H13 : Hid (CS B b1 b2 w4.heap.size w w13 d n k S r2 (.slice a8 n c8) ∧ RI r2 S d n (k + 1) (q + 1) (gd d k) (7 + 200 * (q + 1)) ∧ (r2.vol.getD 0 Ct.zero).x = (S.th (gd d k) 0).x) := ⟨r13, i13, x13⟩
               have m0 : w13.cell? ⟨w4.heap.size, 0, none⟩ = some (.int .i64 (gd d k)) := (by rw [cell_of H13.out.1.box]; rfl)
               have m1 : w13.cell? ⟨w4.heap.size, 1, none⟩ = some (.int .i64 (10 * (k : Int))) := (by rw [cell_of H13.out.1.box]; rfl)
               have m2 : w13.cell? ⟨w4.heap.size, 2, none⟩ = some (.slice a8 n c8) := (by rw [cell_of H13.out.1.box]; rfl)
               clear r13 i13 x13)
            | (go_at_call 22; refine (HWr.out _ H11.out).mono ?_; rintro e w12 ⟨rfl, lv3, r12⟩
               have H12 : Hid (CS B b1 b2 w4.heap.size w w12 d n k S ((r.write 0 lostB).noted 87 (wtext 0 lostB) lv3) (.slice a8 n c8)) := r12
               clear r12)
            | (go_at_call 32; refine (HR2.out _ H10.out).mono ?_; rintro e w11 ⟨rfl, r11, f11⟩
               have H11 : Hid (CS B b1 b2 w4.heap.size w w11 d n k S r (.slice a8 n c8)) := r11
               clear r11 f11)
            | (go_at_call 32; refine (HR1.out _ H9.out).mono ?_; rintro e w10 ⟨rfl, r10, f10⟩
               have H10 : Hid (CS B b1 b2 w4.heap.size w w10 d n k S r (.slice a8 n c8)) := r10
               have hcv := HCT.out w10 f10
               clear r10 f10)
            | (go_at_call_of 15 (Value.int .i64 cut); refine (HPc.out _).mono ?_; rintro e w' ⟨rfl, hw'⟩; have hw' := hw'.symm; subst hw'))
          obtain ⟨g1, hg1, hl1, hcc1⟩ := own_addr' H16.out.1.img (by omega)
          obtain ⟨g2, hg2, hl2, hcc2⟩ := own_addr' H16.out.2 (by omega)
          have hF := c_first hn.1 H13.out.2.1.vol H13.out.2.2
          obtain ⟨sb, hsb⟩ : ∃ sb, (S.th (gd d k) 0).x.str = .string sb := ⟨_, rfl⟩
          rw [hsb] at hF
          have dI : w16.cell? ⟨g1, 0, none⟩ = some (.string sb) := by rw [hcc1 0 (by omega)]; exact hF.2
          have dV : w16.cell? ⟨g2, 0, none⟩ = some (.string sb) := by rw [hcc2 0 (by omega)]; exact hF.1
          subst hg1
          subst hg2
          have m0' : w16.cell? ⟨w4.heap.size, 0, none⟩ = some (.int .i64 (gd d k)) := (by rw [cell_of H16.out.1.box]; rfl)
          have m2' : w16.cell? ⟨w4.heap.size, 2, none⟩ = some (.slice (some ⟨g1, 0, none⟩) n c8) := (by rw [cell_of H16.out.1.box]; rfl)
          have hn0 : (0 : Int) < (n : Int) := by omega
          clear m0 m1 m2 hcc1 hcc2 hF hsb hcv HDu HVo HIs HR1 HR2 HR3 HWr HPc HCT H9 H10 H11 H12 H14 H15
          go_region
          go_wp2
          go_roundw
          case rel =>
            first
              | exact ⟨k + 1, gd d k, by omega, by omega, by go_num, rfl, S, r2, q + 1, H16.out.1.two.same (Fr.refl _ _).drew, HQ.out.1, HQ.out.2.1, H13.out.2.1⟩
              | exact ⟨k + 1, gd d k, by omega, by omega, by go_num, rfl, S, r2, q + 1, H16.out.1.two, HQ.out.1, HQ.out.2.1, H13.out.2.1⟩
          case measure => simp [intOf]; omega
    · have hx : ¬ k < rows.length ∨ (k < rows.length ∧ ¬ k < 12) := by omega
      rcases hx with hx | hx
      · go_wp2
        go_ret
        exact ⟨rfl, HS.out.1.fr.below (by rw [HB.out.1]; exact Nat.le_refl _) (by simp)⟩
      · obtain ⟨hx1, hx2⟩ := hx
        have hxz : (k : Int) < (rows.length : Int) := by omega
        have hxy : ¬ (k : Int) < 12 := by omega
        go_wp2
        go_ret
        exact ⟨rfl, HS.out.1.fr.below (by rw [HB.out.1]; exact Nat.le_refl _) (by simp)⟩
end Go.Proofs.Ythdhegmlknpllaa
