/-
  The walk of tether/tetherkeep.Thinned (4).
-/
import Derived.Test.YtikbfhhkkplpbaaThin
import Derived.Test.YtikbfhhkkplpbaaThinB
import Derived.Test.YtikbfhhkkplpbaaThinC
namespace Go.Proofs.Ytikbfhhkkplpbaa
open Go.RowKit Pl

/-- How many of the first q numbers a test takes. -/
def cntT (T : Nat → Bool) (q : Nat) : Nat := ((List.range q).filter T).length
theorem cntT_le (T : Nat → Bool) (q : Nat) : cntT T q ≤ q := by
  have := List.length_filter_le T (List.range q)
  simpa [cntT] using this
theorem cntT_true {T : Nat → Bool} {q c : Nat} (hc : cntT T q = c) (h : T q = true) : cntT T (q + 1) = c + 1 := by
  rw [cntT] at hc ⊢
  rw [List.range_succ, List.filter_append, List.length_append, hc]
  simp [h]
theorem cntT_false {T : Nat → Bool} {q c : Nat} (hc : cntT T q = c) (h : T q = false) : cntT T (q + 1) = c := by
  rw [cntT] at hc ⊢
  rw [List.range_succ, List.filter_append, List.length_append, hc]
  simp [h]
theorem sumC_next : ∀ (rs : List (Int × Int)) (x : Nat) (h : x < rs.length), sumC (rs.take (x + 1)) = sumC (rs.take x) + rs[x].1.toNat
  | r :: l, 0, _ => by simp [sumC]
  | r :: l, x + 1, h => by
    have := sumC_next l x (by simpa using h)
    simp [sumC] at this ⊢
    omega
theorem okR_at {rs : List (Int × Int)} (h : rs.all okR = true) (x : Nat) (hx : x < rs.length) : (1 ≤ rs[x].1 ∧ rs[x].1 ≤ 20) ∧ 1 ≤ rs[x].2 ∧ rs[x].2 ≤ 1000000 := by
  have := List.all_eq_true.1 h _ (List.getElem_mem hx)
  simp only [okR, Bool.and_eq_true, decide_eq_true_eq] at this
  omega
theorem okRs_len {rs : List (Int × Int)} (h : okRs rs = true) : rs.length ≤ 4 ∧ rs.all okR = true := by
  simpa [okRs] using h
theorem sumC_le : ∀ (rs : List (Int × Int)), rs.all okR = true → sumC rs ≤ 20 * rs.length
  | [], _ => by simp [sumC]
  | r :: l, h => by
    rw [List.all_cons, Bool.and_eq_true] at h
    have := sumC_le l h.2
    have h1 := h.1
    simp only [okR, Bool.and_eq_true, decide_eq_true_eq] at h1
    simp only [sumC, List.length_cons]
    omega
theorem all_take {rs : List (Int × Int)} (h : rs.all okR = true) (m : Nat) : (rs.take m).all okR = true := by
  rw [List.all_eq_true] at h ⊢
  exact fun x hx => h x (List.mem_of_mem_take hx)
theorem okA_all {n kk : Int} {ts : List Int} {rs : List (Int × Int)} (n0 : 0 ≤ n) (n1 : n < 1073741825) (h1 : ts.all okT = true) (k0 : 0 ≤ kk) (h2 : okRs rs = true) : okA n ts kk rs = true := by
  have : okT n = true := by simp [okT]; omega
  simp [okA, this, h1, k0, h2]
theorem kr_get (n : Int) (ts : List Int) (kk : Int) (rs : List (Int × Int)) (i : Nat) (h : i < ts.length) : (kr n ts kk rs)[i]? = some (.bool (keepR n ts kk rs i)) := by simp [kr, h]
theorem RowR.shorter {w : World} {ao : Option Addr} {rs : List (Int × Int)} {cap m : Nat} (h : RowR w ao rs cap) (hm : m ≤ rs.length) : RowR w ao (rs.take m) cap := by
  refine ⟨by have := h.1; simp; omega, fun h0 => ?_⟩
  have h0' : 0 < rs.length := by simp at h0; omega
  obtain ⟨b, off, e, hc⟩ := h.2 h0'
  refine ⟨b, off, e, fun i hi => ?_⟩
  have hi' : i < m ∧ i < rs.length := by simp at hi; omega
  have := hc i hi'.2
  simpa using this

/-- One that a stretch of a rule keeps, for the place p. -/
def good (n : Int) (ts : List Int) (kk : Int) (rs : List (Int × Int)) (y q : Int) (j : Nat) : Prop := j < ts.length ∧ keepR n ts kk rs j = true ∧ tm ts j ≤ n ∧ y ≤ tm ts j ∧ (n - tm ts j) / q = (n - y) / q

theorem good_next {n : Int} {ts : List Int} {kk : Int} {rs : List (Int × Int)} {y q : Int} {j : Nat} (h : false = true ∨ ∃ j', j ≤ j' ∧ good n ts kk rs y q j') (hn : ¬ good n ts kk rs y q j) : false = true ∨ ∃ j', j + 1 ≤ j' ∧ good n ts kk rs y q j' := by
  rcases h with h | ⟨j', h1, h2⟩
  · cases h
  · right
    refine ⟨j', ?_, h2⟩
    have : j' ≠ j := fun e => hn (e ▸ h2)
    omega

set_option maxRecDepth 100000 in
set_option maxHeartbeats 16000000 in
theorem thinned_any (now last : Int) (ao1 ao3 : Option Addr) (z1 z3 : List Int) (k1 k3 : Nat) (w : World) (h1 : RowI w ao1 z1 k1) (h3 : RowI w ao3 z3 k3) (hB1 : Bnd z1) (hB3 : Bnd z3) (hl1 : z1.length ≤ 17592186044416) (hl3 : z3.length ≤ 17592186044416)
    (hnow : -9223372036854775808 ≤ now ∧ now ≤ 9223372036854775807) (hlast : -9223372036854775808 ≤ last ∧ last ≤ 9223372036854775807) :
    Calls Try.prog 4 #[.int .i64 now, .slice ao1 z1.length k1, .int .i64 last, .slice ao3 z3.length k3] w fun e w' => e = .returned (.bool true) ∧ Below w.heap.size w w' := by
  have H1 : Hid (RowI w ao1 z1 k1) := h1
  have H3 : Hid (RowI w ao3 z3 k3) := h3
  have HB1 : Hid (Bnd z1) := hB1
  have HB3 : Hid (Bnd z3) := hB3
  have HP1 : Hid (∀ W, _) := fun W => pick_any now 1073741825 W hnow (by omega) (by omega)
  have HP2 : Hid (∀ W, _) := fun W => pick_any last 10 W hlast (by omega) (by omega)
  clear h1 h3 hB1 hB3 hnow hlast
  go_enter Try.func4, Try.ntmps4
  go_wp2_with (first
    | (go_at_call_of 10 (Value.int .i64 now); refine (HP1.out _).mono ?_; rintro e wa ⟨n, n0, n1, rfl, hw⟩; rw [hw]; clear hw)
    | (go_at_call 11; refine (times_any ao1 z1 k1 w H1.out HB1.out hl1).mono ?_; rintro e w1 ⟨v1, ts, rfl, hts, hall, hown1, hb1⟩; obtain ⟨a1, c1, rfl⟩ := own_shape hown1; have O1 : Hid (w1.ownsRow w.heap.size 3 1 (.slice a1 ts.length c1) ts.length (zc ts) ∧ Below w.heap.size w w1) := ⟨hown1, hb1⟩; have A1 : Hid (ts.all okT = true) := hall; clear hown1 hb1 hall)
    | (go_at_call 12; refine (rules_any ao3 z3 k3 w1 (RowI.below H3.out O1.out.2) HB3.out hl3).mono ?_; rintro e w2 ⟨v2, rs, rfl, hok, hown2, hb2⟩; obtain ⟨a2, c2, rfl⟩ := own_shape hown2; have O2 : Hid (w2.ownsRow w1.heap.size 25 2 (.slice a2 rs.length c2) rs.length (rcl rs) ∧ Below w1.heap.size w1 w2) := ⟨hown2, hb2⟩; have A2 : Hid (okRs rs = true) := hok; clear hown2 hb2 hok)
    | (go_at_call_of 10 (Value.int .i64 last); refine (HP2.out _).mono ?_; rintro e wb ⟨kk, kk0, kk1, rfl, hw⟩; rw [hw]; clear hw)
    | (go_at_call 6; refine (keep_ok n kk a1 a2 ts rs c1 c2 w2 (own_rowI (own_below O1.out.1 O2.out.2)) (own_rowR O2.out.1) (by omega) (by have := (okRs_len A2.out).1; omega) (by omega) (okA_all n0 n1 A1.out kk0 A2.out)).mono ?_; rintro e w3 ⟨G, rfl, hown3, hb3⟩; have O3 : Hid (w3.ownsRow w2.heap.size 4 1 (.slice (some ⟨G, 0, none⟩) ts.length ts.length) ts.length (kr n ts kk rs) ∧ Below w2.heap.size w2 w3) := ⟨hown3, hb3⟩; clear hown3 hb3)
    | (go_at_call 13; refine (lives_any w3).mono ?_; rintro e w4 ⟨rfl, hb4⟩; have O4 : Hid (Below w3.heap.size w3 w4) := hb4; clear hb4))
  have FT : Hid (RowI w4 a1 ts c1) := own_rowI (own_below (own_below (own_below O1.out.1 O2.out.2) O3.out.2) O4.out)
  have FR : Hid (RowR w4 a2 rs c2) := own_rowR (own_below (own_below O2.out.1 O3.out.2) O4.out)
  have FM : Hid (∀ i, i < ts.length → w4.cell? ⟨G, i, none⟩ = some (.bool (keepR n ts kk rs i))) := fun i hi => ((own_below O3.out.1 O4.out).cellAt i (by omega)).trans (kr_get n ts kk rs i hi)
  have FB : Hid (Below w.heap.size w w4) := by
    have e1 := O1.out.2.trans (O2.out.2.mono O1.out.2.size)
    have e2 := e1.trans (O3.out.2.mono e1.size)
    exact e2.trans (O4.out.mono e2.size)
  have hrs := (okRs_len A2.out).1
  have AR : Hid (rs.all okR = true) := (okRs_len A2.out).2
  clear O1 O2 O3 O4
  go_loopw [16] (fun i wr => ∃ (p m : Nat), p ≤ ts.length ∧ i = .int .i64 p ∧ wr = w4.drewN m) (fun i _ => ts.length - (intOf i).toNat)
  case atStart => exact ⟨0, 0, Nat.zero_le _, rfl, rfl⟩
  case round =>
    obtain ⟨p, m, hp, rfl, rfl⟩ := hrel
    by_cases hlt : p < ts.length
    · obtain ⟨b, off, hao, hc⟩ := FT.out.2 (by omega)
      subst hao
      have HC : Hid (∀ i, i < ts.length → w4.cell? ⟨b, off + i, none⟩ = some (.int .i64 (tm ts i))) := hc
      have htp := okT_tm A1.out p hlt
      have d2 : ∀ r, (w4.drewN r).cell? ⟨b, off + p, none⟩ = some (.int .i64 (tm ts p)) := fun r => HC.out p hlt
      obtain ⟨y, hy⟩ : ∃ y, tm ts p = y := ⟨_, rfl⟩
      have HY : Hid (tm ts p = y) := hy
      rw [hy] at htp d2
      obtain ⟨hy0, hy1⟩ := htp
      clear hc hy
      go_wp2
      go_loopw [17, 18] (fun c j wr => ∃ (q c' m' : Nat), q ≤ ts.length ∧ j = .int .i64 q ∧ c = .int .i64 c' ∧ c' ≤ q ∧ wr = w4.drewN m' ∧ Hid (cntT (fun x => nw ts x p) q = c')) (fun _ j _ => ts.length - (intOf j).toNat)
      case atStart => exact ⟨0, 0, m, Nat.zero_le _, rfl, rfl, Nat.le_refl _, rfl, rfl⟩
      case round =>
        obtain ⟨q, c, m2, hq, rfl, rfl, hcq, rfl, HCN⟩ := hrel
        by_cases hlq : q < ts.length
        · have htq := okT_tm A1.out q hlq
          have d1 : ∀ r, (w4.drewN r).cell? ⟨b, off + q, none⟩ = some (.int .i64 (tm ts q)) := fun r => HC.out q hlq
          have HN : Hid (nw ts q p = (decide (y < tm ts q) || (decide (tm ts q = y) && decide (p < q)))) := by show _ = _; rw [nw, HY.out]
          obtain ⟨x, hx⟩ : ∃ x, tm ts q = x := ⟨_, rfl⟩
          rw [hx] at d1 htq HN
          obtain ⟨hx0, hx1⟩ := htq
          clear hx
          by_cases t1 : y < x
          · have HC9 : Hid (cntT (fun x => nw ts x p) (q + 1) = c + 1) := cntT_true HCN.out (by show nw ts q p = true; rw [HN.out]; simp [t1])
            have t1' : decide (y < x) = true := by simpa using t1
            clear HN HCN
            go_wp2
            go_quiet (fail)
            go_wp2
            go_roundw
            case rel => exact ⟨q + 1, c + 1, m2 + nq, by omega, by go_num, by go_num, by omega, rfl, HC9⟩
            case measure => simp [intOf]; omega
          · have t1' : decide (y < x) = false := by simpa using t1
            by_cases t2 : x = y
            · subst t2
              have t2' : (x == x) = true := by simp
              by_cases t3 : p < q
              · have HC9 : Hid (cntT (fun x => nw ts x p) (q + 1) = c + 1) := cntT_true HCN.out (by show nw ts q p = true; rw [HN.out]; simp [t3])
                have t3' : (p : Int) < (q : Int) := by omega
                clear HN HCN
                go_wp2
                go_quiet (fail)
                go_wp2
                go_roundw
                case rel => exact ⟨q + 1, c + 1, m2 + nq, by omega, by go_num, by go_num, by omega, rfl, HC9⟩
                case measure => simp [intOf]; omega
              · have HC9 : Hid (cntT (fun x => nw ts x p) (q + 1) = c) := cntT_false HCN.out (by show nw ts q p = false; rw [HN.out]; simp [t3])
                have t3' : ¬ (p : Int) < (q : Int) := by omega
                clear HN HCN
                go_wp2
                go_quiet (fail)
                go_wp2
                go_roundw
                case rel => exact ⟨q + 1, c, m2 + nq, by omega, by go_num, rfl, by omega, rfl, HC9⟩
                case measure => simp [intOf]; omega
            · have t2' : (x == y) = false := by simpa using t2
              have HC9 : Hid (cntT (fun x => nw ts x p) (q + 1) = c) := cntT_false HCN.out (by show nw ts q p = false; rw [HN.out]; simp [t1, t2])
              clear HN HCN
              go_wp2
              go_quiet (fail)
              go_wp2
              go_roundw
              case rel => exact ⟨q + 1, c, m2 + nq, by omega, by go_num, rfl, by omega, rfl, HC9⟩
              case measure => simp [intOf]; omega
        · have hqe : q = ts.length := by omega
          have HA : Hid (above ts p = c) := by show _ = _; rw [← HCN.out, hqe]; rfl
          obtain ⟨kb, hkb⟩ : ∃ kb, keepR n ts kk rs p = kb := ⟨_, rfl⟩
          have dM : ∀ r, (w4.drewN r).cell? ⟨G, p, none⟩ = some (.bool kb) := fun r => by rw [← hkb]; exact FM.out p hlt
          have K1 : (c : Int) < kk → kb = true := fun h => by rw [← hkb, keepR, HA.out]; simp [h]
          have K2 : n < y → kb = true := fun h => by rw [← hkb, keepR, HY.out]; simp [h]
          clear hkb HCN HA hqe
          by_cases hyn : y ≤ n
          · have hcs : ((c : Int) < kk ∧ kb = true) ∨ ¬ (c : Int) < kk := by
              by_cases h : (c : Int) < kk
              · exact Or.inl ⟨h, K1 h⟩
              · exact Or.inr h
            have hny : ¬ n < y := by omega
            clear K1 K2
            rcases hcs with ⟨hck, rfl⟩ | hck
            all_goals
              go_wp2
              go_loopw [19] (fun xi wr => ∃ (x m3 : Nat), x ≤ rs.length ∧ xi = .int .i64 x ∧ wr = w4.drewN m3) (fun i _ => rs.length - (intOf i).toNat)
              case atStart => exact ⟨0, m2, Nat.zero_le _, rfl, rfl⟩
              case round =>
                obtain ⟨x, m3, hx, rfl, rfl⟩ := hrel
                clear dM
                by_cases hlx : x < rs.length
                · obtain ⟨b2, o2, hao2, hc2⟩ := FR.out.2 (by omega)
                  subst hao2
                  have e1 : ∀ r, (w4.drewN r).cell? ⟨b2, o2 + x * 2, none⟩ = some (.int .i64 rs[x].1) := fun r => (hc2 x hlx).1
                  have e2 : ∀ r, (w4.drewN r).cell? ⟨b2, o2 + x * 2 + 1, none⟩ = some (.int .i64 rs[x].2) := fun r => (hc2 x hlx).2
                  have hrx := okR_at AR.out x hlx
                  have HST : Hid (decide (rs[x].1 ≤ (n - y) / rs[x].2) = true ∨ ∃ j', 0 ≤ j' ∧ good n ts kk rs y rs[x].2 j') := by
                    by_cases hh : rs[x].1 ≤ (n - y) / rs[x].2
                    · exact Or.inl (by simpa using hh)
                    · right
                      obtain ⟨j, hj, hk, hn, hyy, hs⟩ := stretch_kept (now := n) (ts := ts) (last := kk) (rules := rs) (r := rs[x]) (List.getElem_mem hlx) hlt (by rw [HY.out]; exact hyn) (by rw [st, HY.out]; omega)
                      rw [HY.out] at hyy
                      rw [st, st, HY.out] at hs
                      exact ⟨j, Nat.zero_le _, hj, hk, hn, hyy, hs⟩
                  obtain ⟨rc, hrc⟩ : ∃ rc, rs[x].1 = rc := ⟨_, rfl⟩
                  obtain ⟨rq, hrq⟩ : ∃ rq, rs[x].2 = rq := ⟨_, rfl⟩
                  rw [hrc] at e1 hrx HST
                  rw [hrq] at e2 hrx HST
                  obtain ⟨⟨y1, y2⟩, y3, y4⟩ := hrx
                  have hd0 : 0 ≤ (n - y) / rq := Int.ediv_nonneg (by omega) (by omega)
                  have hd1 : (n - y) / rq ≤ n - y := Int.ediv_le_self _ (by omega)
                  clear hc2 hrc hrq
                  go_wp2
                  go_quiet (fail)
                  go_wp2
                  go_loopw [21, 22] (fun s j wr => ∃ (q m4 : Nat) (sb : Bool), q ≤ ts.length ∧ j = .int .i64 q ∧ s = .bool sb ∧ wr = w4.drewN m4 ∧ Hid (sb = true ∨ ∃ j', q ≤ j' ∧ good n ts kk rs y rq j')) (fun _ j _ => ts.length - (intOf j).toNat)
                  case atStart => exact ⟨0, _, _, Nat.zero_le _, rfl, rfl, rfl, HST⟩
                  case round =>
                    as_aux_lemma =>
                      obtain ⟨q4, m4, sb, hq4, rfl, rfl, rfl, HS4⟩ := hrel
                      clear HST e1
                      by_cases hl4 : q4 < ts.length
                      · obtain ⟨kb4, hkb4⟩ : ∃ kb4, keepR n ts kk rs q4 = kb4 := ⟨_, rfl⟩
                        have g1 : ∀ r, (w4.drewN r).cell? ⟨G, q4, none⟩ = some (.bool kb4) := fun r => by rw [← hkb4]; exact FM.out q4 hl4
                        have g2 : ∀ r, (w4.drewN r).cell? ⟨b, off + q4, none⟩ = some (.int .i64 (tm ts q4)) := fun r => HC.out q4 hl4
                        have htq := okT_tm A1.out q4 hl4
                        have HGD : Hid (good n ts kk rs y rq q4 → kb4 = true ∧ tm ts q4 ≤ n ∧ y ≤ tm ts q4 ∧ (n - tm ts q4) / rq = (n - y) / rq) := fun h => ⟨hkb4 ▸ h.2.1, h.2.2.1, h.2.2.2.1, h.2.2.2.2⟩
                        obtain ⟨x4, hx4⟩ : ∃ x4, tm ts q4 = x4 := ⟨_, rfl⟩
                        rw [hx4] at g2 htq HGD
                        obtain ⟨hx40, hx41⟩ := htq
                        clear hkb4 hx4
                        cases sb with
                        | true =>
                          clear HS4 HGD
                          go_wp2
                          go_quiet (fail)
                          go_wp2
                          go_roundw
                          case rel => exact ⟨q4 + 1, m4 + nq, true, by omega, by go_num, rfl, rfl, Or.inl rfl⟩
                          case measure => simp [intOf]; omega
                        | false =>
                          cases kb4 with
                          | false =>
                            have HS9 : Hid (false = true ∨ ∃ j', q4 + 1 ≤ j' ∧ good n ts kk rs y rq j') := good_next HS4.out (fun h => by have := (HGD.out h).1; cases this)
                            clear HS4 HGD
                            go_wp2
                            go_quiet (fail)
                            go_wp2
                            go_roundw
                            case rel => exact ⟨q4 + 1, m4 + nq, false, by omega, by go_num, rfl, rfl, HS9⟩
                            case measure => simp [intOf]; omega
                          | true =>
                            by_cases s1 : x4 ≤ n
                            · have s1' : decide (x4 ≤ n) = true := by simpa using s1
                              by_cases s2 : y ≤ x4
                              · have s2' : decide (y ≤ x4) = true := by simpa using s2
                                have hf0 : 0 ≤ (n - x4) / rq := Int.ediv_nonneg (by omega) (by omega)
                                have hf1 : (n - x4) / rq ≤ n - x4 := Int.ediv_le_self _ (by omega)
                                by_cases s3 : (n - x4) / rq = (n - y) / rq
                                · have s3' : ((n - x4) / rq == (n - y) / rq) = true := by simpa using s3
                                  have S3 : Hid ((n - x4) / rq = (n - y) / rq) := s3
                                  clear HS4 HGD s3
                                  go_wp2
                                  go_quiet (fail)
                                  go_wp2
                                  go_roundw
                                  case rel => exact ⟨q4 + 1, m4 + nq, true, by omega, by go_num, rfl, rfl, Or.inl rfl⟩
                                  case measure => simp [intOf]; omega
                                · have s3' : ((n - x4) / rq == (n - y) / rq) = false := by simpa using s3
                                  have HS9 : Hid (false = true ∨ ∃ j', q4 + 1 ≤ j' ∧ good n ts kk rs y rq j') := good_next HS4.out (fun h => s3 (HGD.out h).2.2.2)
                                  clear HS4 HGD
                                  go_wp2
                                  go_quiet (fail)
                                  go_wp2
                                  go_roundw
                                  case rel => exact ⟨q4 + 1, m4 + nq, false, by omega, by go_num, rfl, rfl, HS9⟩
                                  case measure => simp [intOf]; omega
                              · have s2' : decide (y ≤ x4) = false := by simpa using s2
                                have HS9 : Hid (false = true ∨ ∃ j', q4 + 1 ≤ j' ∧ good n ts kk rs y rq j') := good_next HS4.out (fun h => s2 (HGD.out h).2.2.1)
                                clear HS4 HGD
                                go_wp2
                                go_quiet (fail)
                                go_wp2
                                go_roundw
                                case rel => exact ⟨q4 + 1, m4 + nq, false, by omega, by go_num, rfl, rfl, HS9⟩
                                case measure => simp [intOf]; omega
                            · have s1' : decide (x4 ≤ n) = false := by simpa using s1
                              have HS9 : Hid (false = true ∨ ∃ j', q4 + 1 ≤ j' ∧ good n ts kk rs y rq j') := good_next HS4.out (fun h => s1 (HGD.out h).2.1)
                              clear HS4 HGD
                              go_wp2
                              go_quiet (fail)
                              go_wp2
                              go_roundw
                              case rel => exact ⟨q4 + 1, m4 + nq, false, by omega, by go_num, rfl, rfl, HS9⟩
                              case measure => simp [intOf]; omega
                      · have hsb : sb = true := by
                          rcases HS4.out with h | ⟨j', hj1, hj2⟩
                          · exact h
                          · have := hj2.1; omega
                        subst hsb
                        clear HS4
                        go_wp2
                        go_roundw
                        case rel => exact ⟨x + 1, m4, by omega, by go_num, rfl⟩
                        case measure => simp [intOf]; omega
                · go_wp2
                  go_roundw
                  case rel => exact ⟨p + 1, m3, by omega, by go_num, rfl⟩
                  case measure => simp [intOf]; omega
          · have hny : n < y := by omega
            have hkt := K2 hny
            subst hkt
            clear K1 K2
            by_cases hck : (c : Int) < kk
            all_goals
              go_wp2
              go_loopw [19] (fun xi wr => xi = .int .i64 0 ∧ wr = w4.drewN m2) (fun _ _ => 0)
              case atStart => exact ⟨rfl, rfl⟩
              case round =>
                obtain ⟨rfl, rfl⟩ := hrel
                by_cases hr0 : 0 < rs.length
                all_goals
                  go_wp2
                  go_roundw
                  case rel => exact ⟨p + 1, m2, by omega, by go_num, rfl⟩
                  case measure => simp [intOf]; omega
    · have hpe : p = ts.length := by omega
      clear hpe
      go_wp2
      go_loopw [23, 24] (fun c j wr => ∃ (q c' : Nat), q ≤ ts.length ∧ j = .int .i64 q ∧ c = .int .i64 c' ∧ c' ≤ q ∧ wr = w4.drewN m ∧ Hid (cntT (fun x => keepR n ts kk rs x && decide (tm ts x ≤ n)) q = c')) (fun _ j _ => ts.length - (intOf j).toNat)
      case atStart => exact ⟨0, 0, Nat.zero_le _, rfl, rfl, Nat.le_refl _, rfl, rfl⟩
      case round =>
        as_aux_lemma =>
          obtain ⟨q, c, hq, rfl, rfl, hcq, rfl, HCN⟩ := hrel
          by_cases hlq : q < ts.length
          · obtain ⟨b, off, hao, hc⟩ := FT.out.2 (by omega)
            subst hao
            obtain ⟨kb, hkb⟩ : ∃ kb, keepR n ts kk rs q = kb := ⟨_, rfl⟩
            have g1 : (w4.drewN m).cell? ⟨G, q, none⟩ = some (.bool kb) := by rw [← hkb]; exact FM.out q hlq
            have g2 : (w4.drewN m).cell? ⟨b, off + q, none⟩ = some (.int .i64 (tm ts q)) := hc q hlq
            obtain ⟨x, hx⟩ : ∃ x, tm ts q = x := ⟨_, rfl⟩
            rw [hx] at g2
            have HT : Hid ((fun x => keepR n ts kk rs x && decide (tm ts x ≤ n)) q = (kb && decide (x ≤ n))) := by show _ = _; simp only [hkb, hx]
            clear hc hkb hx
            cases kb with
            | false =>
              have HC9 : Hid (cntT (fun x => keepR n ts kk rs x && decide (tm ts x ≤ n)) (q + 1) = c) := cntT_false HCN.out (HT.out.trans rfl)
              clear HCN HT
              go_wp2
              go_roundw
              case rel => exact ⟨q + 1, c, by omega, by go_num, rfl, by omega, by first | rfl | trivial, HC9⟩
              case measure => simp [intOf]; omega
            | true =>
              by_cases hxn : x ≤ n
              · have HC9 : Hid (cntT (fun x => keepR n ts kk rs x && decide (tm ts x ≤ n)) (q + 1) = c + 1) := cntT_true HCN.out (HT.out.trans (by simpa using hxn))
                clear HCN HT
                go_wp2
                go_roundw
                case rel => exact ⟨q + 1, c + 1, by omega, by go_num, by go_num, by omega, by first | rfl | trivial, HC9⟩
                case measure => simp [intOf]; omega
              · have HC9 : Hid (cntT (fun x => keepR n ts kk rs x && decide (tm ts x ≤ n)) (q + 1) = c) := cntT_false HCN.out (HT.out.trans (by simpa using hxn))
                clear HCN HT
                go_wp2
                go_roundw
                case rel => exact ⟨q + 1, c, by omega, by go_num, rfl, by omega, by first | rfl | trivial, HC9⟩
                case measure => simp [intOf]; omega
          · have hqe : q = ts.length := by omega
            have HKC : Hid (c ≤ kk.toNat + sumC rs) := by
              have := keep_count (now := n) (ts := ts) (last := kk) (rules := rs) kk0 (fun r hr => by
                obtain ⟨i, hi, rfl⟩ := List.getElem_of_mem hr
                exact (okR_at AR.out i hi).2.1)
              show c ≤ _
              rw [← HCN.out, hqe]
              exact this
            clear HCN hqe
            go_wp2
            go_loopw [25, 26] (fun s j wr => ∃ (x sm : Nat), x ≤ rs.length ∧ j = .int .i64 x ∧ s = .int .i64 (kk + (sm : Int)) ∧ sm ≤ 20 * x ∧ wr = w4.drewN m ∧ Hid (sumC (rs.take x) = sm)) (fun _ j _ => rs.length - (intOf j).toNat)
            case atStart => exact ⟨0, 0, Nat.zero_le _, rfl, by go_num, Nat.le_refl _, rfl, rfl⟩
            case round =>
              as_aux_lemma =>
                obtain ⟨x, sm, hx, rfl, rfl, hsm, rfl, HSM⟩ := hrel
                by_cases hlx : x < rs.length
                · obtain ⟨b2, o2, hao2, hc2⟩ := FR.out.2 (by omega)
                  subst hao2
                  have e1 : (w4.drewN m).cell? ⟨b2, o2 + x * 2, none⟩ = some (.int .i64 rs[x].1) := (hc2 x hlx).1
                  have hrx := okR_at AR.out x hlx
                  have HS9 := sumC_next rs x hlx
                  rw [HSM.out] at HS9
                  obtain ⟨rc, hrc⟩ : ∃ rc, rs[x].1 = rc := ⟨_, rfl⟩
                  rw [hrc] at e1 hrx HS9
                  have HS8 : Hid (sumC (rs.take (x + 1)) = sm + rc.toNat) := HS9
                  obtain ⟨⟨y1, y2⟩, -⟩ := hrx
                  clear hc2 hrc HS9 HSM
                  go_wp2
                  go_roundw
                  case rel => exact ⟨x + 1, sm + rc.toNat, by omega, by go_num, by go_num, by omega, by first | rfl | trivial, HS8⟩
                  case measure => simp [intOf]; omega
                · have hle : ¬ (kk + (sm : Int) < (c : Int)) := by
                    have h1 := HKC.out
                    have h2 := HSM.out
                    rw [List.take_of_length_le (by omega)] at h2
                    omega
                  clear HKC HSM
                  by_cases hr0 : rs.length = 0
                  · go_wp2
                    go_ret
                    exact ⟨rfl, bdn FB.out _⟩
                  · obtain ⟨mm, hmm⟩ : ∃ mm, rs.length = mm + 1 := ⟨rs.length - 1, by omega⟩
                    obtain ⟨b2, o2, hao2, hc2⟩ := FR.out.2 (by omega)
                    subst hao2
                    have HR5 : Hid (RowR (w4.drewN m) (some ⟨b2, o2, none⟩) (rs.take mm) c2) := RowR.below (RowR.shorter FR.out (by omega)) (bdn (Below.refl _ _) m)
                    have HT5 : Hid (RowI (w4.drewN m) a1 ts c1) := RowI.below FT.out (bdn (Below.refl _ _) m)
                    have HK2 : Hid (∀ W, RowI W a1 ts c1 → RowR W (some ⟨b2, o2, none⟩) (rs.take mm) c2 → Calls Try.prog 6 #[.int .i64 n, .slice a1 ts.length c1, .int .i64 kk, .slice (some ⟨b2, o2, none⟩) mm c2] W fun e w' => ∃ g, e = .returned (.tuple #[.slice (some ⟨g, 0, none⟩) ts.length ts.length, .int .i64 0]) ∧ w'.ownsRow W.heap.size 4 1 (.slice (some ⟨g, 0, none⟩) ts.length ts.length) ts.length (kr n ts kk (rs.take mm)) ∧ Below W.heap.size W w') := fun W j1 j2 => by
                      have hl : (rs.take mm).length = mm := by simp; omega
                      have := keep_ok n kk a1 (some ⟨b2, o2, none⟩) ts (rs.take mm) c1 c2 W j1 j2 (by omega) (by omega) (by omega) (okA_all n0 n1 A1.out kk0 (by rw [okRs, all_take AR.out mm, hl]; simp; omega))
                      rwa [hl] at this
                    have hcap2 := FR.out.1
                    rw [hmm] at hcap2
                    simp only [hmm]
                    have HMM : Hid (rs.length = mm + 1) := hmm
                    have f1 : (mm + 1 : Int) - 1 = mm := by omega
                    have hlx' : ¬ (x : Int) < (mm : Int) + 1 := by omega
                    have hmm4 : mm ≤ 3 := by omega
                    clear hc2 hmm hx hlx hrs hr0
                    go_wp2_with (go_at_call 6; go_loud (refine (HK2.out (w4.drewN m) HT5.out HR5.out).mono ?_; rintro e w5 ⟨g, rfl, hown5, hb5⟩))
                    have M1 : Hid (∀ i, i < ts.length → w5.cell? ⟨G, i, none⟩ = some (.bool (keepR n ts kk rs i))) := fun i hi => (hb5.cell (p := ⟨G, i, none⟩) (World.block_lt_of_cell? (w4.drewN m) _ (FM.out i hi))).trans (FM.out i hi)
                    have M2 : Hid (∀ i, i < ts.length → w5.cell? ⟨g, i, none⟩ = some (.bool (keepR n ts kk (rs.take mm) i))) := fun i hi => (hown5.cellAt i (by omega)).trans (kr_get n ts kk (rs.take mm) i hi)
                    have B5 : Hid (Below w.heap.size w w5) := (bdn FB.out m).trans (hb5.mono FB.out.size)
                    clear hown5 hb5 HK2 HT5 HR5
                    go_loopw [29] (fun i wr => ∃ q : Nat, q ≤ ts.length ∧ i = .int .i64 q ∧ wr = w5) (fun i _ => ts.length - (intOf i).toNat)
                    case atStart => exact ⟨0, Nat.zero_le _, rfl, rfl⟩
                    case round =>
                      as_aux_lemma =>
                        obtain ⟨q7, hq7, rfl, rfl⟩ := hrel
                        by_cases hl7 : q7 < ts.length
                        · obtain ⟨ka, hka⟩ : ∃ ka, keepR n ts kk (rs.take mm) q7 = ka := ⟨_, rfl⟩
                          obtain ⟨kb, hkb⟩ : ∃ kb, keepR n ts kk rs q7 = kb := ⟨_, rfl⟩
                          have g1 := M1.out q7 hl7
                          have g2 := M2.out q7 hl7
                          rw [hkb] at g1
                          rw [hka] at g2
                          have hab : ka = true → kb = true := fun h => by
                            rw [← hkb]
                            exact keep_more (fun r hr => List.mem_of_mem_take hr) (hka.trans h)
                          clear hka hkb
                          cases ka with
                          | false =>
                            clear hab
                            go_wp2
                            go_roundw
                            case rel => exact ⟨q7 + 1, by omega, by go_num, by first | rfl | trivial⟩
                            case measure => simp [intOf]; omega
                          | true =>
                            have hkt := hab rfl
                            subst hkt
                            clear hab
                            go_wp2
                            go_roundw
                            case rel => exact ⟨q7 + 1, by omega, by go_num, by first | rfl | trivial⟩
                            case measure => simp [intOf]; omega
                        · go_wp2
                          go_ret
                          exact ⟨rfl, B5.out⟩
end Go.Proofs.Ytikbfhhkkplpbaa
