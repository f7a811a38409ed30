/-
  The walks of tether/grid.timesMayBe (16), rulesMayBe (17).
-/
import Derived.Test.YtikbfhhkkplpbaaBase
namespace Go.Proofs.Ytikbfhhkkplpbaa
open Go.RowKit Pl

def okT (z : Int) : Bool := decide (0 ≤ z) && decide (z ≤ 1073741824)
def okR (r : Int × Int) : Bool := decide (1 ≤ r.1) && decide (r.1 ≤ 20) && decide (1 ≤ r.2) && decide (r.2 ≤ 1000000)
def okRs (rs : List (Int × Int)) : Bool := decide (rs.length ≤ 4) && rs.all okR

theorem drop_tm (zs : List Int) (k : Nat) (h : k < zs.length) : zs.drop k = tm zs k :: zs.drop (k + 1) := by
  rw [List.drop_eq_getElem_cons h]
  simp [tm, h]
theorem drop_nil {α : Type} (zs : List α) (k : Nat) (h : ¬ k < zs.length) : zs.drop k = [] := List.drop_eq_nil_of_le (by omega)

set_option maxHeartbeats 400000 in
theorem tmay_any (ao : Option Addr) (zs : List Int) (cap : Nat) (w : World) (h : RowI w ao zs cap) (hn : zs.length ≤ 17592186044416) :
    Calls Try.prog 16 #[.slice ao zs.length cap] w fun e w' => e = .returned (.bool (zs.all okT)) ∧ w' = w := by
  obtain ⟨r, hr⟩ : ∃ r, zs.all okT = r := ⟨_, rfl⟩
  rw [hr]
  have HR : Hid ((zs.drop 0).all okT = r) := hr
  clear hr
  go_enter Try.func16, Try.ntmps16
  go_wp2
  go_loop [7] (fun i => ∃ k : Nat, k ≤ zs.length ∧ i = .int .i64 k ∧ Hid ((zs.drop k).all okT = r)) (fun i => zs.length - (intOf i).toNat)
  case atStart => exact ⟨0, Nat.zero_le _, rfl, HR⟩
  case round =>
    obtain ⟨k, hk, rfl, HK⟩ := hrel
    clear HR
    by_cases hlt : k < zs.length
    · obtain ⟨b, off, rfl, hc⟩ := h.2 (by omega)
      have d1 := hc k hlt
      have H := HK.out
      rw [drop_tm zs k hlt, List.all_cons] at H
      obtain ⟨x, hx⟩ : ∃ x, tm zs k = x := ⟨_, rfl⟩
      rw [hx] at d1 H
      clear hc h HK hx
      by_cases hok : 0 ≤ x ∧ x ≤ 1073741824
      · rw [show okT x = true by simp [okT, hok], Bool.true_and] at H
        have HH : Hid _ := H
        clear H
        obtain ⟨ok1, ok2⟩ := hok
        go_wp2
        go_round
        case rel => exact ⟨k + 1, by omega, by go_num, HH⟩
        case measure => simp [intOf]; omega
      · rw [show okT x = false by simp [okT]; omega, Bool.false_and] at H
        subst H
        rcases (show x < 0 ∨ (0 ≤ x ∧ 1073741824 < x) by omega) with ok1 | ⟨ok1, ok2⟩
        all_goals
          go_wp2
          go_ret
          exact ⟨rfl, rfl⟩
    · have H := HK.out
      rw [drop_nil zs k hlt] at H
      simp only [List.all_nil] at H
      subst H
      clear HK h
      go_wp2
      go_ret
      exact ⟨rfl, rfl⟩

set_option maxHeartbeats 1000000 in
theorem rmay_any (ao : Option Addr) (rs : List (Int × Int)) (cap : Nat) (w : World) (h : RowR w ao rs cap) (hn : rs.length ≤ 17592186044416) :
    Calls Try.prog 17 #[.slice ao rs.length cap] w fun e w' => e = .returned (.bool (okRs rs)) ∧ Below w.heap.size w w' := by
  by_cases h4 : 4 < rs.length
  · rw [show okRs rs = false by simp [okRs]; omega]
    have h4' : (4 : Int) < (rs.length : Int) := by omega
    go_enter Try.func17, Try.ntmps17
    go_wp2
    go_ret
    exact ⟨rfl, Below.refl _ _⟩
  · have h4' : ¬ (4 : Int) < (rs.length : Int) := by omega
    obtain ⟨r, hr⟩ : ∃ r, rs.all okR = r := ⟨_, rfl⟩
    rw [show okRs rs = r by simp [okRs, hr]; omega]
    have HR : Hid ((rs.drop 0).all okR = r) := hr
    clear hr
    go_enter Try.func17, Try.ntmps17
    go_wp2
    go_loopw [10] (fun i wr => ∃ k : Nat, k ≤ rs.length ∧ i = .int .i64 k ∧ Below w.heap.size w wr ∧ Hid ((rs.drop k).all okR = r)) (fun i _ => rs.length - (intOf i).toNat)
    case atStart => exact ⟨0, Nat.zero_le _, rfl, Below.refl _ _, HR⟩
    case round =>
      obtain ⟨k, hk, rfl, hb, HK⟩ := hrel
      clear HR
      by_cases hlt : k < rs.length
      · obtain ⟨bb, off, rfl, hc⟩ := (h.below hb).2 (by omega)
        obtain ⟨d1, d2⟩ := hc k hlt
        have H := HK.out
        rw [List.drop_eq_getElem_cons hlt, List.all_cons] at H
        obtain ⟨x, hx⟩ : ∃ x, rs[k] = x := ⟨_, rfl⟩
        rw [hx] at d1 d2 H
        obtain ⟨c, q⟩ := x
        simp only at d1 d2
        clear hc h HK hx
        have hb1 : ∀ o, Below w.heap.size w (wr.alloc o) := fun o => hb.alloc hb.size o
        by_cases hok : 1 ≤ c ∧ c ≤ 20 ∧ 1 ≤ q ∧ q ≤ 1000000
        · rw [show okR (c, q) = true by simp [okR]; omega, Bool.true_and] at H
          have HH : Hid _ := H
          clear H
          obtain ⟨ok1, ok2, ok3, ok4⟩ := hok
          go_wp2
          go_roundw
          case rel => exact ⟨k + 1, by omega, by go_num, hb1 _, HH⟩
          case measure => simp [intOf]; omega
        · rw [show okR (c, q) = false by simp [okR]; omega, Bool.false_and] at H
          subst H
          rcases (show c < 1 ∨ (1 ≤ c ∧ 20 < c) ∨ (1 ≤ c ∧ c ≤ 20 ∧ q < 1) ∨ (1 ≤ c ∧ c ≤ 20 ∧ 1 ≤ q ∧ 1000000 < q) by omega) with ok1 | ⟨ok1, ok2⟩ | ⟨ok1, ok2, ok3⟩ | ⟨ok1, ok2, ok3, ok4⟩
          all_goals
            go_wp2
            go_ret
            exact ⟨rfl, hb1 _⟩
      · have H := HK.out
        rw [drop_nil rs k hlt] at H
        simp only [List.all_nil] at H
        subst H
        clear HK h
        go_wp2
        go_ret
        exact ⟨rfl, hb⟩
end Go.Proofs.Ytikbfhhkkplpbaa
