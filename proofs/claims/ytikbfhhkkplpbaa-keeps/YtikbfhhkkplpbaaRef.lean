/-
  The walks of tether/tetherref.kept (15) and tether/tetherref.Keep (5).
-/
import Derived.Test.YtikbfhhkkplpbaaKeepOk
namespace Go.Proofs.Ytikbfhhkkplpbaa
open Go.RowKit Pl

theorem range_drop (n j : Nat) (h : j < n) : (List.range n).drop j = j :: (List.range n).drop (j + 1) := by
  rw [List.drop_eq_getElem_cons (by simpa using h)]; simp

/-- Is a place no reason against another? -/
def fre (now : Int) (zs : List Int) (k : Nat) (q : Int) (i : Nat) : Bool := !(nw zs i k && decide (tm zs i ≤ now) && decide (st now zs q i = st now zs q k))

set_option maxHeartbeats 1000000 in
theorem refkept_any (now : Int) (a1 : Option Addr) (zs : List Int) (c1 k : Nat) (c q : Int) (w : World) (h1 : RowI w a1 zs c1) (hz : zs.length ≤ 17592186044416) (hk : k < zs.length) (hnow : okT now = true) (hT : zs.all okT = true) (hkn : tm zs k ≤ now) (hq : 1 ≤ q ∧ q ≤ 1000000) :
    Calls Try.prog 15 #[.int .i64 now, .slice a1 zs.length c1, .int .i64 k, .agg #[.int .i64 c, .int .i64 q]] w fun e w' => e = .returned (.bool (keptR now zs k (c, q))) ∧ Below w.heap.size w w' := by
  obtain ⟨hq0, hq6⟩ := hq
  simp only [okT, Bool.and_eq_true, decide_eq_true_eq] at hnow
  obtain ⟨hn0, hn30⟩ := hnow
  have htk := okT_tm hT k hk
  obtain ⟨b, off, rfl, hc⟩ := h1.2 (by omega)
  have l1 := h1.1
  have hcW : ∀ m i, i < zs.length → ((w.alloc (.cells #[.int .i64 c, .int .i64 q] 25)).drewN m).cell? ⟨b, off + i, none⟩ = some (.int .i64 (tm zs i)) := fun m i hi => by
    have hl := World.block_lt_of_cell? _ _ (hc i hi)
    exact (World.cell?_alloc_old _ _ _ (Nat.ne_of_lt hl)).trans (hc i hi)
  have HC : Hid _ := hcW
  have HB : Hid (∀ m, Below w.heap.size w ((w.alloc (.cells #[.int .i64 c, .int .i64 q] 25)).drewN m)) := fun m => bdn ((Below.refl _ _).alloc (Nat.le_refl _) _) m
  have HNEW : Hid (∀ m i, i < zs.length → Calls Try.prog 14 #[.slice (some ⟨b, off, none⟩) zs.length c1, .int .i64 i, .int .i64 k] ((w.alloc (.cells #[.int .i64 c, .int .i64 q] 25)).drewN m) fun e w' => e = .returned (.bool (nw zs i k)) ∧ ∃ q', w' = ((w.alloc (.cells #[.int .i64 c, .int .i64 q] 25)).drewN m).drewN q') := fun m i hi =>
    newer_any _ zs c1 i k _ (h1.below (HB.out m)) hi hk hz
  have d0 : ∀ m, ((w.alloc (.cells #[.int .i64 c, .int .i64 q] 25)).drewN m).cell? ⟨b, off + k, none⟩ = some (.int .i64 (tm zs k)) := fun m => hcW m k hk
  have d0' : (w.alloc (.cells #[.int .i64 c, .int .i64 q] 25)).cell? ⟨b, off + k, none⟩ = some (.int .i64 (tm zs k)) := hcW 0 k hk
  obtain ⟨R, hR⟩ : ∃ R, keptR now zs k (c, q) = R := ⟨_, rfl⟩
  rw [hR]
  have hR' : (decide ((now - tm zs k) / q < c) && (List.range zs.length).all (fre now zs k q)) = R := by rw [← hR]; rfl
  have HT : Hid (zs.all okT = true) := hT
  obtain ⟨y, hy⟩ : ∃ y, tm zs k = y := ⟨_, rfl⟩
  have HY : Hid (tm zs k = y) := hy
  rw [hy] at d0 d0' hR' hkn htk
  obtain ⟨hy0, hy30⟩ := htk
  clear hcW hR hc h1 hT hy
  by_cases hst : c ≤ (now - y) / q
  · rw [show decide ((now - y) / q < c) = false by simp; exact hst, Bool.false_and] at hR'
    subst hR'
    go_enter Try.func15, Try.ntmps15
    go_wp2
    go_quiet (fail)
    go_wp2
    go_ret
    exact ⟨rfl, HB.out _⟩
  · rw [show decide ((now - y) / q < c) = true by simp; omega, Bool.true_and] at hR'
    have HR : Hid (((List.range zs.length).drop 0).all (fre now zs k q) = R) := hR'
    clear hR'
    go_enter Try.func15, Try.ntmps15
    go_wp2
    go_quiet (fail)
    go_wp2
    go_loopw [10] (fun i wr => ∃ (j m : Nat), j ≤ zs.length ∧ i = .int .i64 j ∧ wr = (w.alloc (.cells #[.int .i64 c, .int .i64 q] 25)).drewN m ∧ Hid (((List.range zs.length).drop j).all (fre now zs k q) = R)) (fun i _ => zs.length - (intOf i).toNat)
    case atStart => exact ⟨0, nq, Nat.zero_le _, rfl, rfl, HR⟩
    case round =>
      obtain ⟨j, m, hj, rfl, rfl, HK⟩ := hrel
      clear HR
      by_cases hlt : j < zs.length
      · have H := HK.out
        rw [range_drop _ _ hlt, List.all_cons] at H
        have HN := HNEW.out m j hlt
        have htj := okT_tm HT.out j hlt
        have e1 : ∀ m', ((w.alloc (.cells #[.int .i64 c, .int .i64 q] 25)).drewN m').cell? ⟨b, off + j, none⟩ = some (.int .i64 (tm zs j)) := fun m' => HC.out m' j hlt
        have b1 : ∀ m', ((w.alloc (.cells #[.int .i64 c, .int .i64 q] 25)).drewN m').cell? ⟨w.heap.size, 1, none⟩ = some (.int .i64 q) := fun m' => by show (w.alloc _).cell? _ = _; simp
        have hfj : fre now zs k q j = !(nw zs j k && decide (tm zs j ≤ now) && decide ((now - tm zs j) / q = (now - y) / q)) := by
          unfold fre
          rw [show st now zs q k = (now - y) / q by rw [st, HY.out]]
          rfl
        rw [hfj] at H
        clear hfj
        obtain ⟨x, hx⟩ : ∃ x, tm zs j = x := ⟨_, rfl⟩
        rw [hx] at htj e1 H
        obtain ⟨hx0, hx30⟩ := htj
        clear hx HK
        cases hnw : nw zs j k with
        | false =>
          rw [hnw] at HN H
          simp only [Bool.false_and, Bool.not_false, Bool.true_and] at H
          have HH : Hid _ := H
          clear H hnw
          go_wp2_with (go_at_call 14; refine HN.mono ?_; rintro e w' ⟨rfl, q', hw⟩; rw [hw]; clear hw)
          go_quiet (fail)
          go_wp2
          go_roundw
          case rel => exact ⟨j + 1, _, by omega, by go_num, rfl, HH⟩
          case measure => simp [intOf]; omega
        | true =>
          rw [hnw] at HN H
          simp only [Bool.true_and] at H
          clear hnw
          by_cases hxn : x ≤ now
          · have t1 : decide (x ≤ now) = true := by simpa using hxn
            rw [t1, Bool.true_and] at H
            by_cases hse : (now - x) / q = (now - y) / q
            · have t2 : ((now - x) / q == (now - y) / q) = true := by simpa using hse
              rw [show decide ((now - x) / q = (now - y) / q) = true by simpa using hse] at H
              simp only [Bool.not_true, Bool.false_and] at H
              subst H
              clear hse
              go_wp2_with (go_at_call 14; refine HN.mono ?_; rintro e w' ⟨rfl, q', hw⟩; rw [hw]; clear hw)
              go_quiet (fail)
              go_wp2
              go_ret
              exact ⟨rfl, bdn (HB.out _) _⟩
            · have t2 : ((now - x) / q == (now - y) / q) = false := by simpa using hse
              rw [show decide ((now - x) / q = (now - y) / q) = false by simpa using hse] at H
              simp only [Bool.not_false, Bool.true_and] at H
              have HH : Hid _ := H
              clear hse H
              go_wp2_with (go_at_call 14; refine HN.mono ?_; rintro e w' ⟨rfl, q', hw⟩; rw [hw]; clear hw)
              go_quiet (fail)
              go_wp2
              go_roundw
              case rel => exact ⟨j + 1, _, by omega, by go_num, rfl, HH⟩
              case measure => simp [intOf]; omega
          · have t1 : decide (x ≤ now) = false := by simpa using hxn
            rw [t1, Bool.false_and] at H
            simp only [Bool.not_false, Bool.true_and] at H
            have HH : Hid _ := H
            clear H
            go_wp2_with (go_at_call 14; refine HN.mono ?_; rintro e w' ⟨rfl, q', hw⟩; rw [hw]; clear hw)
            go_quiet (fail)
            go_wp2
            go_roundw
            case rel => exact ⟨j + 1, _, by omega, by go_num, rfl, HH⟩
            case measure => simp [intOf]; omega
      · have H := HK.out
        rw [drop_nil _ j (by simpa using hlt)] at H
        simp only [List.all_nil] at H
        subst H
        clear HK
        go_wp2
        go_ret
        exact ⟨rfl, HB.out _⟩
end Go.Proofs.Ytikbfhhkkplpbaa
