/-
  The walk of tether/tetherref.Keep (5).
-/
import Derived.Test.YtikbfhhkkplpbaaRefBad
namespace Go.Proofs.Ytikbfhhkkplpbaa
open Go.RowKit Pl

set_option maxRecDepth 100000 in
set_option maxHeartbeats 8000000 in
theorem refkeep_main (now last : Int) (a1 a3 : Option Addr) (zs : List Int) (rs : List (Int × Int)) (c1 c3 : Nat) (w : World) (h1 : RowI w a1 zs c1) (h3 : RowR w a3 rs c3) (hz : zs.length ≤ 17592186044416) (hb : b0 now last rs.length = true) :
    Calls Try.prog 5 #[.int .i64 now, .slice a1 zs.length c1, .int .i64 last, .slice a3 rs.length c3] w fun e w' =>
      (okA now zs last rs = false ∧ e = .returned (.tuple #[.slice none 0 0, .int .i64 1]) ∧ Below w.heap.size w w') ∨
      (okA now zs last rs = true ∧ ∃ v, e = .returned (.tuple #[v, .int .i64 0]) ∧ w'.ownsRow w.heap.size 4 1 v zs.length (kr now zs last rs) ∧ Below w.heap.size w w') := by
  obtain ⟨i0, hi, hz0, hz1, hz2⟩ := info_parts info4
  obtain ⟨B, hB⟩ : ∃ B, okA now zs last rs = B := ⟨_, rfl⟩
  rw [hB]
  have HOK : Hid (okA now zs last rs = B) := hB
  rw [okA_b0, hb] at hB
  have H1 : Hid (RowI w a1 zs c1) := h1
  have H3 : Hid (RowR w a3 rs c3) := h3
  have HB : Hid (((true && (zs.drop 0).all okT) && rs.all okR) = B) := hB
  simp only [b0, Bool.and_eq_true, decide_eq_true_eq] at hb
  obtain ⟨⟨⟨k1, k2⟩, k3⟩, k4⟩ := hb
  have k4' : (rs.length : Int) ≤ 4 := by omega
  clear hB h1 h3
  go_enter Try.func5, Try.ntmps5
  go_wp2
  go_loop [10, 11] (fun ok i => ∃ (j : Nat) (b : Bool), j ≤ zs.length ∧ i = .int .i64 j ∧ ok = .bool b ∧ Hid (((b && (zs.drop j).all okT) && rs.all okR) = B)) (fun _ i => zs.length - (intOf i).toNat)
  case atStart => exact ⟨0, true, Nat.zero_le _, rfl, by simp; try omega, HB⟩
  case round =>
    obtain ⟨j, b, hj, rfl, rfl, HJ⟩ := hrel
    clear HB
    by_cases hlt : j < zs.length
    · have H := HJ.out
      rw [drop_tm zs j hlt, List.all_cons] at H
      clear HJ
      cases b with
      | false =>
        have HH : Hid (((false && (zs.drop (j + 1)).all okT) && rs.all okR) = B) := by show _ = _; rw [← H]; simp
        clear H
        go_wp2
        go_round
        case rel => exact ⟨j + 1, false, by omega, by go_num, rfl, HH⟩
        case measure => simp [intOf]; omega
      | true =>
        obtain ⟨bb, off, hb', hc⟩ := H1.out.2 (by omega)
        subst hb'
        have d1 := hc j hlt
        have l1 := H1.out.1
        obtain ⟨x, hx⟩ : ∃ x, tm zs j = x := ⟨_, rfl⟩
        rw [hx] at d1 H
        clear hc hx
        by_cases hxk : 0 ≤ x ∧ x ≤ 1073741824
        · have HH : Hid (((true && (zs.drop (j + 1)).all okT) && rs.all okR) = B) := by show _ = _; rw [← H]; simp [okT, hxk]
          obtain ⟨q1, q2⟩ := hxk
          clear H
          go_wp2
          go_round
          case rel => exact ⟨j + 1, true, by omega, by go_num, by simp; try omega, HH⟩
          case measure => simp [intOf]; omega
        · have HH : Hid (((false && (zs.drop (j + 1)).all okT) && rs.all okR) = B) := by
            show _ = _; rw [← H, show okT x = false by simp [okT]; omega]; simp
          clear H
          rcases (show x < 0 ∨ (0 ≤ x ∧ 1073741824 < x) by omega) with q1 | ⟨q1, q2⟩
          all_goals
            go_wp2
            go_round
            case rel => exact ⟨j + 1, false, by omega, by go_num, by simp; try omega, HH⟩
            case measure => simp [intOf]; omega
    · have H := HJ.out
      rw [drop_nil zs j hlt, List.all_nil, Bool.and_true] at H
      have HB : Hid ((b && (rs.drop 0).all okR) = B) := H
      clear H HJ
      go_wp2
      go_loop [10, 12] (fun ok i => ∃ (j : Nat) (b : Bool), j ≤ rs.length ∧ i = .int .i64 j ∧ ok = .bool b ∧ Hid ((b && (rs.drop j).all okR) = B)) (fun _ i => rs.length - (intOf i).toNat)
      case atStart => exact ⟨0, b, Nat.zero_le _, rfl, rfl, HB⟩
      case round =>
        obtain ⟨q, b', hq, rfl, rfl, HJ⟩ := hrel
        clear HB
        by_cases hlt : q < rs.length
        · have H := HJ.out
          rw [List.drop_eq_getElem_cons hlt, List.all_cons] at H
          clear HJ
          cases b' with
          | false =>
            have HH : Hid ((false && (rs.drop (q + 1)).all okR) = B) := by show _ = _; rw [← H]; simp
            clear H
            go_wp2
            go_round
            case rel => exact ⟨q + 1, false, by omega, by go_num, rfl, HH⟩
            case measure => simp [intOf]; omega
          | true =>
            obtain ⟨bb, off, hb', hc⟩ := H3.out.2 (by omega)
            subst hb'
            obtain ⟨d1, d2⟩ := hc q hlt
            have l3 := H3.out.1
            obtain ⟨x, hx⟩ : ∃ x, rs[q] = x := ⟨_, rfl⟩
            rw [hx] at d1 d2 H
            obtain ⟨c, s⟩ := x
            simp only at d1 d2
            clear hc hx
            by_cases hxk : 1 ≤ c ∧ c ≤ 20 ∧ 1 ≤ s ∧ s ≤ 1000000
            · have HH : Hid ((true && (rs.drop (q + 1)).all okR) = B) := by show _ = _; rw [← H]; simp [okR, hxk]
              obtain ⟨q1, q2, q3, q4⟩ := hxk
              clear H
              go_wp2
              go_round
              case rel => exact ⟨q + 1, true, by omega, by go_num, by simp; try omega, HH⟩
              case measure => simp [intOf]; omega
            · have HH : Hid ((false && (rs.drop (q + 1)).all okR) = B) := by
                show _ = _; rw [← H, show okR (c, s) = false by simp [okR]; omega]; simp
              clear H
              rcases (show c < 1 ∨ (1 ≤ c ∧ 20 < c) ∨ (1 ≤ c ∧ c ≤ 20 ∧ s < 1) ∨ (1 ≤ c ∧ c ≤ 20 ∧ 1 ≤ s ∧ 1000000 < s) by omega) with q1 | ⟨q1, q2⟩ | ⟨q1, q2, q3⟩ | ⟨q1, q2, q3, q4⟩
              all_goals
                go_wp2
                go_round
                case rel => exact ⟨q + 1, false, by omega, by go_num, by simp; try omega, HH⟩
                case measure => simp [intOf]; omega
        · have H := HJ.out
          rw [drop_nil rs q hlt, List.all_nil, Bool.and_true] at H
          clear HJ
          subst H
          cases b' with
          | false =>
            go_wp2
            go_ret2
            exact ⟨rfl, Below.refl _ _⟩
          | true =>
            have hok := HOK.out
            simp only [okA, okRs, Bool.and_eq_true, decide_eq_true_eq] at hok
            have HT : Hid (zs.all okT = true) := hok.1.1.2
            have HN : Hid (okT now = true) := hok.1.1.1
            have HRS : Hid (rs.all okR = true) := hok.2.2
            clear hok HOK
            go_wp2
            go_loopw [13, 14] (fun v i wr => ∃ k : Nat, k ≤ zs.length ∧ i = .int .i64 k ∧ wr.ownsRow w.heap.size 4 1 v k (krk now zs last rs k) ∧ Below w.heap.size w wr) (fun _ i _ => zs.length - (intOf i).toNat)
            case atStart => exact ⟨0, Nat.zero_le _, rfl, World.ownsRow_nil _ _ _ _, Below.refl _ _⟩
            case round =>
              obtain ⟨k, hk, rfl, hown, hbl⟩ := hrel
              by_cases hlt : k < zs.length
              · obtain ⟨W3, hW3⟩ : ∃ W3, W3 = wr := ⟨_, rfl⟩
                subst hW3
                have HROW : Hid (∀ W', Below W3.heap.size W3 W' → RowI W' a1 zs c1) := fun W' hb => H1.out.below (hbl.trans (hb.mono hbl.size))
                have HROWR : Hid (∀ W', Below W3.heap.size W3 W' → RowR W' a3 rs c3) := fun W' hb => H3.out.below (hbl.trans (hb.mono hbl.size))
                have HOWN : Hid (W3.ownsRow w.heap.size 4 1 u13 k (krk now zs last rs k)) := hown
                have HBL : Hid (Below w.heap.size w W3) := hbl
                obtain ⟨ao, cap, hsh⟩ : ∃ ao cap, u13 = .slice ao k cap := by
                  rcases hown.2 with ⟨e, e'⟩ | ⟨g, cap, _, e, _⟩
                  · exact ⟨none, 0, by rw [e, e']⟩
                  · exact ⟨_, cap, e⟩
                subst hsh
                clear hown hbl
                go_wp2
                go_loopw [15, 16] (fun a i wr => ∃ (j m : Nat), j ≤ zs.length ∧ i = .int .i64 j ∧ a = .int .i64 (cnt zs k j : Nat) ∧ wr = W3.drewN m) (fun _ i _ => zs.length - (intOf i).toNat)
                case atStart => exact ⟨0, 0, Nat.zero_le _, rfl, rfl, rfl⟩
                case round =>
                  obtain ⟨j2, m, hj2, rfl, rfl, rfl⟩ := hrel
                  have hcl := cnt_le zs k j2
                  by_cases hlt2 : j2 < zs.length
                  · have HNW := newer_any a1 zs c1 j2 k _ (HROW.out (W3.drewN m) (bdn (Below.refl _ _) m)) hlt2 hlt hz
                    have hcn := cnt_next zs k j2
                    cases hnw : nw zs j2 k with
                    | true =>
                      rw [hnw] at HNW hcn
                      have HCN : Hid (cnt zs k (j2 + 1) = cnt zs k j2 + 1) := by show _ = _; rw [hcn]; rfl
                      clear hnw hcn
                      go_wp2_with (go_at_call 14; refine HNW.mono ?_; rintro e w' ⟨rfl, q', hw⟩; rw [hw]; clear hw)
                      go_roundw
                      case rel => exact ⟨j2 + 1, _, by omega, by go_num, by rw [HCN.out]; go_num, rfl⟩
                      case measure => simp [intOf]; omega
                    | false =>
                      rw [hnw] at HNW hcn
                      have HCN : Hid (cnt zs k (j2 + 1) = cnt zs k j2) := by show _ = _; rw [hcn]; rfl
                      clear hnw hcn
                      go_wp2_with (go_at_call 14; refine HNW.mono ?_; rintro e w' ⟨rfl, q', hw⟩; rw [hw]; clear hw)
                      go_roundw
                      case rel => exact ⟨j2 + 1, _, by omega, by go_num, by rw [HCN.out], rfl⟩
                      case measure => simp [intOf]; omega
                  · have hje : j2 = zs.length := by omega
                    have hab : cnt zs k j2 = above zs k := by rw [hje]; rfl
                    rw [hab] at hcl ⊢
                    clear hab hje
                    obtain ⟨Kp, hKp⟩ : ∃ Kp, keepR now zs last rs k = Kp := ⟨_, rfl⟩
                    have HKP : Hid (keepR now zs last rs k = Kp) := hKp
                    unfold keepR at hKp
                    obtain ⟨bb1, off1, hbb1, hc1⟩ := H1.out.2 (by omega)
                    subst hbb1
                    have l1 := H1.out.1
                    have d0 : (W3.drewN m).cell? ⟨bb1, off1 + k, none⟩ = some (.int .i64 (tm zs k)) := (HBL.out.cell (p := ⟨bb1, off1 + k, none⟩) (World.block_lt_of_cell? _ _ (hc1 k hlt))).trans (hc1 k hlt)
                    obtain ⟨y, hy⟩ : ∃ y, tm zs k = y := ⟨_, rfl⟩
                    have HY : Hid (tm zs k = y) := hy
                    rw [hy] at d0 hKp
                    clear hc1 hy
                    by_cases hal : (above zs k : Int) < last
                    · have HI : Hid ((true || (rs.drop 0).any (keptR now zs k)) = Kp) := by show _ = _; rw [← hKp]; simp [hal]
                      have HLE : Hid (true = false → tm zs k ≤ now) := fun e => by cases e
                      clear hKp
                      go_wp2
                      go_loopw [18, 19] (fun kp i wr => ∃ (j5 : Nat) (kb : Bool), j5 ≤ rs.length ∧ i = .int .i64 j5 ∧ kp = .bool kb ∧ Below W3.heap.size W3 wr ∧ Hid ((kb || (rs.drop j5).any (keptR now zs k)) = Kp) ∧ Hid (kb = false → tm zs k ≤ now)) (fun _ i _ => rs.length - (intOf i).toNat)
                      case atStart => exact ⟨0, true, Nat.zero_le _, rfl, rfl, bdn (Below.refl _ _) _, HI, HLE⟩
                      case round =>
                        obtain ⟨j5, kb, hj5, rfl, rfl, hb5, HJ5, HLE5⟩ := hrel
                        obtain ⟨W5, hW5⟩ : ∃ W5, W5 = wr := ⟨_, rfl⟩
                        subst hW5
                        clear HI HLE
                        by_cases hgo : j5 < rs.length ∧ kb = false
                        · obtain ⟨hlt5, rfl⟩ := hgo
                          obtain ⟨bb, off, hbb, hc⟩ := (HROWR.out W5 hb5).2 (by omega)
                          subst hbb
                          obtain ⟨d1, d2⟩ := hc j5 hlt5
                          have l3 := H3.out.1
                          have H := HJ5.out
                          rw [List.drop_eq_getElem_cons hlt5, List.any_cons, Bool.false_or] at H
                          have hrok := List.all_eq_true.1 HRS.out rs[j5] (List.getElem_mem hlt5)
                          obtain ⟨x, hx⟩ : ∃ x, rs[j5] = x := ⟨_, rfl⟩
                          rw [hx] at d1 d2 H hrok
                          obtain ⟨c, s⟩ := x
                          simp only at d1 d2
                          simp only [okR, Bool.and_eq_true, decide_eq_true_eq] at hrok
                          have HKC := refkept_any now (some ⟨bb1, off1, none⟩) zs c1 k c s W5 (HROW.out W5 hb5) hz hlt HN.out HT.out (HLE5.out rfl) (by omega)
                          obtain ⟨kk, hkk⟩ : ∃ kk, keptR now zs k (c, s) = kk := ⟨_, rfl⟩
                          rw [hkk] at HKC H
                          have HH : Hid ((kk || (List.drop (j5 + 1) rs).any (keptR now zs k)) = Kp) := H
                          have HLE6 : Hid (kk = false → tm zs k ≤ now) := fun _ => HLE5.out rfl
                          clear hc hx hkk H HJ5 HLE5 hrok
                          go_wp2_with (go_at_call 15; refine HKC.mono ?_; rintro e w' ⟨rfl, hb6⟩)
                          go_roundw
                          case rel => exact ⟨j5 + 1, kk, by omega, by go_num, rfl, hb5.trans (hb6.mono hb5.size), HH, HLE6⟩
                          case measure => simp [intOf]; omega
                        · have hkp : kb = Kp := by
                            have h := HJ5.out
                            cases kb with
                            | true => simpa using h
                            | false =>
                              have : ¬ j5 < rs.length := fun x => hgo ⟨x, rfl⟩
                              rw [drop_nil rs j5 this] at h
                              simpa using h
                          have hcs : (kb = true ∧ (j5 : Int) < (rs.length : Int)) ∨ (kb = true ∧ ¬ (j5 : Int) < (rs.length : Int)) ∨ (kb = false ∧ ¬ (j5 : Int) < (rs.length : Int)) := by
                            cases kb with
                            | true =>
                              by_cases h5 : (j5 : Int) < (rs.length : Int)
                              · exact Or.inl ⟨rfl, h5⟩
                              · exact Or.inr (Or.inl ⟨rfl, h5⟩)
                            | false => exact Or.inr (Or.inr ⟨rfl, fun x => hgo ⟨by omega, rfl⟩⟩)
                          have hO5 := own_below HOWN.out hb5
                          have hsz5 : w.heap.size ≤ W5.heap.size := Nat.le_trans HBL.out.size hb5.size
                          clear HJ5 HLE5 hgo
                          rcases hcs with ⟨hcs, hcs2⟩ | ⟨hcs, hcs2⟩ | ⟨hcs, hcs2⟩
                          all_goals
                            subst hcs
                            subst hkp
                            go_wp2_with (at_builtin; refine wpList_append_own _ rfl (.tmp 145) (.tmp 147) 26 rfl w.heap.size 4 i0 _ 1 1 Try.underlying26 hi hz0 hz1 hz2 rfl (by decide) _ _ _ rfl (hO5.alloc _) ⟨W5.heap.size, 0, none⟩ 1 1 [.bool _] rfl rfl (cells_one _ _ _) (bool_one _) (by unfold maxLen; omega) (by omega) (by simp; omega) ?_)
                            intro v' w9 hown9 hgrow9 _
                            have hE : w9.ownsRow w.heap.size 4 1 v' (k + 1) (krk now zs last rs (k + 1)) := by rw [krk_next, HKP.out]; exact hown9
                            have hb9 : Below w.heap.size w w9 := ((HBL.out.trans (hb5.mono HBL.out.size)).alloc hsz5 _).grown hgrow9 (by simp; omega) (fun b e => (hO5.lt b e).1)
                            clear hown9 hgrow9 hO5
                            go_wp2
                            go_roundw
                            case rel => exact ⟨k + 1, by omega, by go_num, hE, hb9⟩
                            case measure => simp [intOf]; omega
                    · by_cases hny : now < y
                      · have HI : Hid ((true || (rs.drop 0).any (keptR now zs k)) = Kp) := by show _ = _; rw [← hKp]; simp [hny]
                        have HLE : Hid (true = false → tm zs k ≤ now) := fun e => by cases e
                        clear hKp
                        go_wp2
                        go_loopw [18, 19] (fun kp i wr => ∃ (j5 : Nat) (kb : Bool), j5 ≤ rs.length ∧ i = .int .i64 j5 ∧ kp = .bool kb ∧ Below W3.heap.size W3 wr ∧ Hid ((kb || (rs.drop j5).any (keptR now zs k)) = Kp) ∧ Hid (kb = false → tm zs k ≤ now)) (fun _ i _ => rs.length - (intOf i).toNat)
                        case atStart => exact ⟨0, true, Nat.zero_le _, rfl, rfl, bdn (Below.refl _ _) _, HI, HLE⟩
                        case round =>
                          obtain ⟨j5, kb, hj5, rfl, rfl, hb5, HJ5, HLE5⟩ := hrel
                          obtain ⟨W5, hW5⟩ : ∃ W5, W5 = wr := ⟨_, rfl⟩
                          subst hW5
                          clear HI HLE
                          by_cases hgo : j5 < rs.length ∧ kb = false
                          · obtain ⟨hlt5, rfl⟩ := hgo
                            obtain ⟨bb, off, hbb, hc⟩ := (HROWR.out W5 hb5).2 (by omega)
                            subst hbb
                            obtain ⟨d1, d2⟩ := hc j5 hlt5
                            have l3 := H3.out.1
                            have H := HJ5.out
                            rw [List.drop_eq_getElem_cons hlt5, List.any_cons, Bool.false_or] at H
                            have hrok := List.all_eq_true.1 HRS.out rs[j5] (List.getElem_mem hlt5)
                            obtain ⟨x, hx⟩ : ∃ x, rs[j5] = x := ⟨_, rfl⟩
                            rw [hx] at d1 d2 H hrok
                            obtain ⟨c, s⟩ := x
                            simp only at d1 d2
                            simp only [okR, Bool.and_eq_true, decide_eq_true_eq] at hrok
                            have HKC := refkept_any now (some ⟨bb1, off1, none⟩) zs c1 k c s W5 (HROW.out W5 hb5) hz hlt HN.out HT.out (HLE5.out rfl) (by omega)
                            obtain ⟨kk, hkk⟩ : ∃ kk, keptR now zs k (c, s) = kk := ⟨_, rfl⟩
                            rw [hkk] at HKC H
                            have HH : Hid ((kk || (List.drop (j5 + 1) rs).any (keptR now zs k)) = Kp) := H
                            have HLE6 : Hid (kk = false → tm zs k ≤ now) := fun _ => HLE5.out rfl
                            clear hc hx hkk H HJ5 HLE5 hrok
                            go_wp2_with (go_at_call 15; refine HKC.mono ?_; rintro e w' ⟨rfl, hb6⟩)
                            go_roundw
                            case rel => exact ⟨j5 + 1, kk, by omega, by go_num, rfl, hb5.trans (hb6.mono hb5.size), HH, HLE6⟩
                            case measure => simp [intOf]; omega
                          · have hkp : kb = Kp := by
                              have h := HJ5.out
                              cases kb with
                              | true => simpa using h
                              | false =>
                                have : ¬ j5 < rs.length := fun x => hgo ⟨x, rfl⟩
                                rw [drop_nil rs j5 this] at h
                                simpa using h
                            have hcs : (kb = true ∧ (j5 : Int) < (rs.length : Int)) ∨ (kb = true ∧ ¬ (j5 : Int) < (rs.length : Int)) ∨ (kb = false ∧ ¬ (j5 : Int) < (rs.length : Int)) := by
                              cases kb with
                              | true =>
                                by_cases h5 : (j5 : Int) < (rs.length : Int)
                                · exact Or.inl ⟨rfl, h5⟩
                                · exact Or.inr (Or.inl ⟨rfl, h5⟩)
                              | false => exact Or.inr (Or.inr ⟨rfl, fun x => hgo ⟨by omega, rfl⟩⟩)
                            have hO5 := own_below HOWN.out hb5
                            have hsz5 : w.heap.size ≤ W5.heap.size := Nat.le_trans HBL.out.size hb5.size
                            clear HJ5 HLE5 hgo
                            rcases hcs with ⟨hcs, hcs2⟩ | ⟨hcs, hcs2⟩ | ⟨hcs, hcs2⟩
                            all_goals
                              subst hcs
                              subst hkp
                              go_wp2_with (at_builtin; refine wpList_append_own _ rfl (.tmp 145) (.tmp 147) 26 rfl w.heap.size 4 i0 _ 1 1 Try.underlying26 hi hz0 hz1 hz2 rfl (by decide) _ _ _ rfl (hO5.alloc _) ⟨W5.heap.size, 0, none⟩ 1 1 [.bool _] rfl rfl (cells_one _ _ _) (bool_one _) (by unfold maxLen; omega) (by omega) (by simp; omega) ?_)
                              intro v' w9 hown9 hgrow9 _
                              have hE : w9.ownsRow w.heap.size 4 1 v' (k + 1) (krk now zs last rs (k + 1)) := by rw [krk_next, HKP.out]; exact hown9
                              have hb9 : Below w.heap.size w w9 := ((HBL.out.trans (hb5.mono HBL.out.size)).alloc hsz5 _).grown hgrow9 (by simp; omega) (fun b e => (hO5.lt b e).1)
                              clear hown9 hgrow9 hO5
                              go_wp2
                              go_roundw
                              case rel => exact ⟨k + 1, by omega, by go_num, hE, hb9⟩
                              case measure => simp [intOf]; omega
                      · have HI : Hid ((false || (rs.drop 0).any (keptR now zs k)) = Kp) := by show _ = _; rw [← hKp]; simp [hny, hal]
                        have HLE : Hid (tm zs k ≤ now) := by show _ ≤ _; rw [HY.out]; omega
                        clear hKp
                        go_wp2
                        go_loopw [18, 19] (fun kp i wr => ∃ (j5 : Nat) (kb : Bool), j5 ≤ rs.length ∧ i = .int .i64 j5 ∧ kp = .bool kb ∧ Below W3.heap.size W3 wr ∧ Hid ((kb || (rs.drop j5).any (keptR now zs k)) = Kp) ∧ Hid (kb = false → tm zs k ≤ now)) (fun _ i _ => rs.length - (intOf i).toNat)
                        case atStart => exact ⟨0, false, Nat.zero_le _, rfl, rfl, bdn (Below.refl _ _) _, HI, fun _ => HLE.out⟩
                        case round =>
                          obtain ⟨j5, kb, hj5, rfl, rfl, hb5, HJ5, HLE5⟩ := hrel
                          obtain ⟨W5, hW5⟩ : ∃ W5, W5 = wr := ⟨_, rfl⟩
                          subst hW5
                          clear HI HLE
                          by_cases hgo : j5 < rs.length ∧ kb = false
                          · obtain ⟨hlt5, rfl⟩ := hgo
                            obtain ⟨bb, off, hbb, hc⟩ := (HROWR.out W5 hb5).2 (by omega)
                            subst hbb
                            obtain ⟨d1, d2⟩ := hc j5 hlt5
                            have l3 := H3.out.1
                            have H := HJ5.out
                            rw [List.drop_eq_getElem_cons hlt5, List.any_cons, Bool.false_or] at H
                            have hrok := List.all_eq_true.1 HRS.out rs[j5] (List.getElem_mem hlt5)
                            obtain ⟨x, hx⟩ : ∃ x, rs[j5] = x := ⟨_, rfl⟩
                            rw [hx] at d1 d2 H hrok
                            obtain ⟨c, s⟩ := x
                            simp only at d1 d2
                            simp only [okR, Bool.and_eq_true, decide_eq_true_eq] at hrok
                            have HKC := refkept_any now (some ⟨bb1, off1, none⟩) zs c1 k c s W5 (HROW.out W5 hb5) hz hlt HN.out HT.out (HLE5.out rfl) (by omega)
                            obtain ⟨kk, hkk⟩ : ∃ kk, keptR now zs k (c, s) = kk := ⟨_, rfl⟩
                            rw [hkk] at HKC H
                            have HH : Hid ((kk || (List.drop (j5 + 1) rs).any (keptR now zs k)) = Kp) := H
                            have HLE6 : Hid (kk = false → tm zs k ≤ now) := fun _ => HLE5.out rfl
                            clear hc hx hkk H HJ5 HLE5 hrok
                            go_wp2_with (go_at_call 15; refine HKC.mono ?_; rintro e w' ⟨rfl, hb6⟩)
                            go_roundw
                            case rel => exact ⟨j5 + 1, kk, by omega, by go_num, rfl, hb5.trans (hb6.mono hb5.size), HH, HLE6⟩
                            case measure => simp [intOf]; omega
                          · have hkp : kb = Kp := by
                              have h := HJ5.out
                              cases kb with
                              | true => simpa using h
                              | false =>
                                have : ¬ j5 < rs.length := fun x => hgo ⟨x, rfl⟩
                                rw [drop_nil rs j5 this] at h
                                simpa using h
                            have hcs : (kb = true ∧ (j5 : Int) < (rs.length : Int)) ∨ (kb = true ∧ ¬ (j5 : Int) < (rs.length : Int)) ∨ (kb = false ∧ ¬ (j5 : Int) < (rs.length : Int)) := by
                              cases kb with
                              | true =>
                                by_cases h5 : (j5 : Int) < (rs.length : Int)
                                · exact Or.inl ⟨rfl, h5⟩
                                · exact Or.inr (Or.inl ⟨rfl, h5⟩)
                              | false => exact Or.inr (Or.inr ⟨rfl, fun x => hgo ⟨by omega, rfl⟩⟩)
                            have hO5 := own_below HOWN.out hb5
                            have hsz5 : w.heap.size ≤ W5.heap.size := Nat.le_trans HBL.out.size hb5.size
                            clear HJ5 HLE5 hgo
                            rcases hcs with ⟨hcs, hcs2⟩ | ⟨hcs, hcs2⟩ | ⟨hcs, hcs2⟩
                            all_goals
                              subst hcs
                              subst hkp
                              go_wp2_with (at_builtin; refine wpList_append_own _ rfl (.tmp 145) (.tmp 147) 26 rfl w.heap.size 4 i0 _ 1 1 Try.underlying26 hi hz0 hz1 hz2 rfl (by decide) _ _ _ rfl (hO5.alloc _) ⟨W5.heap.size, 0, none⟩ 1 1 [.bool _] rfl rfl (cells_one _ _ _) (bool_one _) (by unfold maxLen; omega) (by omega) (by simp; omega) ?_)
                              intro v' w9 hown9 hgrow9 _
                              have hE : w9.ownsRow w.heap.size 4 1 v' (k + 1) (krk now zs last rs (k + 1)) := by rw [krk_next, HKP.out]; exact hown9
                              have hb9 : Below w.heap.size w w9 := ((HBL.out.trans (hb5.mono HBL.out.size)).alloc hsz5 _).grown hgrow9 (by simp; omega) (fun b e => (hO5.lt b e).1)
                              clear hown9 hgrow9 hO5
                              go_wp2
                              go_roundw
                              case rel => exact ⟨k + 1, by omega, by go_num, hE, hb9⟩
                              case measure => simp [intOf]; omega
              · have hke : k = zs.length := by omega
                have hE : wr.ownsRow w.heap.size 4 1 u13 zs.length (kr now zs last rs) := by rw [hke] at hown; exact hown
                clear hown hke
                go_wp2
                go_ret2
                exact ⟨_, rfl, hE, hbl⟩
end Go.Proofs.Ytikbfhhkkplpbaa
