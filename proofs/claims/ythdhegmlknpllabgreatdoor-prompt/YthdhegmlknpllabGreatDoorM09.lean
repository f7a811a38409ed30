import Derived.Test.YthdhegmlknpllabGreatDoorRows
import Derived.Test.YthdhegmlknpllabGreatDoorM07
import Derived.WalkKit
import Derived.WalkSpells
import Derived.WalkLawsBesides
/-
  The walks of the two readers of numbers: tether/grid.parseNumber (14) and tether/tetherref.digits (9).
-/
namespace Go.Proofs.YthdhegmlknpllabGreatDoor.Gp
open Go.RowKit Pl

theorem drop_get (s : ByteArray) (k : Nat) (h : k < s.size) : s.data.toList.drop k = s[k] :: s.data.toList.drop (k + 1) := by
  rw [List.drop_eq_getElem_cons (by simpa using h)]; rfl

theorem ret_two {k : IntKind} {a b : Int} {x y : Bool} (h : a = b) (h' : x = y) : Ending.returned (.tuple #[.int k a, .bool x]) = .returned (.tuple #[.int k b, .bool y]) := by rw [h, h']
theorem isD_eq (c : UInt8) : isD c = true ↔ 48 ≤ (c.toNat : Int) ∧ (c.toNat : Int) ≤ 57 := by simp [isD]

set_option maxHeartbeats 400000 in
theorem pnum_any (s : ByteArray) (most : Int) (w : World) (hs : s.size ≤ 140737488355328) (h0 : 0 ≤ most) (h1 : most ≤ 1000000) :
    Calls Tryz.prog 114 #[.string s, .int .i64 most] w fun e w' => e = .returned (.tuple #[.int .i64 ((pn most s.data.toList).getD 0), .bool (pn most s.data.toList).isSome]) ∧ w' = w := by
  by_cases hz : s.size = 0
  · have hl : s.data.toList = [] := List.eq_nil_of_length_eq_zero (by simpa using hz)
    have he : s.toList = [] := by rw [Lib.toList_data]; exact hl
    have hpn : pn most s.data.toList = none := by rw [hl]; exact pn_nil most
    rw [hpn]
    clear hl hpn
    go_enter Tryz.func114, Tryz.ntmps114
    go_wp2
    go_ret2
    exact ⟨rfl, rfl⟩
  · have hp : 0 < s.size := by omega
    have hl := drop_get s 0 hp
    simp only [List.drop_zero] at hl
    have hne : ¬ s.toList = [] := by rw [Lib.toList_data, hl]; simp
    have hne' : s.toList.isEmpty = false := by rw [Lib.toList_data, hl]; rfl
    by_cases h48 : s[0] = 48
    · have hpn : pn most s.data.toList = none := by unfold pn; rw [if_pos]; right; rw [hl, h48]; rfl
      have ht : (((s[0]'hp).toNat : Int) == 48) = true := by rw [h48]; rfl
      rw [hpn]
      clear hpn hl h48
      go_enter Tryz.func114, Tryz.ntmps114
      go_wp2
      go_ret2
      exact ⟨rfl, rfl⟩
    · have hpn : pn most s.data.toList = pnGo most s.data.toList 0 := by
        unfold pn; rw [if_neg]; rintro (x | x)
        · rw [hl] at x; simp at x
        · rw [hl] at x; simp at x; exact h48 x
      have ht : (((s[0]'hp).toNat : Int) == 48) = false := by
        rw [beq_eq_false_iff_ne]; intro e; apply h48; apply UInt8.toNat_inj.1; show s[0].toNat = 48; omega
      obtain ⟨r, hr⟩ : ∃ r, pn most s.data.toList = r := ⟨_, rfl⟩
      rw [hr]
      have HR : Hid (pnGo most (s.data.toList.drop 0) 0 = r) := by rw [List.drop_zero, ← hpn, hr]; rfl
      clear hpn hl h48 hr
      go_enter Tryz.func114, Tryz.ntmps114
      go_wp2
      go_loop [6, 18] (fun n i => ∃ k : Nat, ∃ m : Int, k ≤ s.size ∧ i = .int .i64 k ∧ n = .int .i64 m ∧ 0 ≤ m ∧ m ≤ most ∧ Hid (pnGo most (s.data.toList.drop k) m = r)) (fun _ i => s.size - (intOf i).toNat)
      case atStart => exact ⟨0, 0, Nat.zero_le _, rfl, rfl, by omega, by omega, HR⟩
      case round =>
        obtain ⟨k, m, hk, rfl, rfl, hm0, hm1, HK⟩ := hrel
        by_cases hlt : k < s.size
        · have hd := drop_get s k hlt
          have H := HK.out
          rw [hd] at H
          unfold pnGo at H
          by_cases hdig : isD s[k] = true
          · rw [if_pos hdig] at H
            have hb := (isD_eq _).1 hdig
            by_cases hov : most < m * 10 + dv s[k]
            · rw [if_pos hov] at H
              unfold dv at hov
              subst H
              clear hd hdig HK HR
              go_wp2
              go_ret2
              exact ⟨rfl, rfl⟩
            · rw [if_neg hov] at H
              have HH : Hid (pnGo most (List.drop (k + 1) s.data.toList) (m * 10 + dv s[k]) = r) := H
              unfold dv at hov
              clear hd hdig HK HR H
              go_wp2
              go_round
              case rel => exact ⟨k + 1, m * 10 + (↑s[k].toNat - 48), by omega, by go_num, rfl, by omega, by omega, HH⟩
              case measure => simp [intOf]; omega
          · rw [if_neg hdig] at H
            rw [isD_eq] at hdig
            subst H
            clear hd HK HR
            go_wp2
            all_goals
              go_ret2
              exact ⟨rfl, rfl⟩
        · have hke : k = s.size := by omega
          have H := HK.out
          rw [List.drop_eq_nil_of_le (by simp; omega)] at H
          simp only [pnGo] at H
          subst H
          clear HK HR hke
          go_wp2
          go_ret2
          exact ⟨rfl, rfl⟩

end Go.Proofs.YthdhegmlknpllabGreatDoor.Gp
