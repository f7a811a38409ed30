/-
  The walks of the two readers of numbers: tether/grid.parseNumber (14) and tether/tetherref.digits (9).
-/
import Derived.Test.YtikbfhhkkplpbaaDoorRows
import Derived.Test.YtikbfhhkkplpbaaDoorPlain
import Derived.WalkKit
import Derived.WalkSpells
import Derived.WalkLawsBesides
namespace Go.Proofs.YtikbfhhkkplpbaaDoor
open Go.RowKit Pl

theorem drop_get (s : ByteArray) (k : Nat) (h : k < s.size) : s.data.toList.drop k = s[k] :: s.data.toList.drop (k + 1) := by
  rw [List.drop_eq_getElem_cons (by simpa using h)]; rfl

theorem ret_two {k : IntKind} {a b : Int} {x y : Bool} (h : a = b) (h' : x = y) : Ending.returned (.tuple #[.int k a, .bool x]) = .returned (.tuple #[.int k b, .bool y]) := by rw [h, h']
theorem isD_eq (c : UInt8) : isD c = true ↔ 48 ≤ (c.toNat : Int) ∧ (c.toNat : Int) ≤ 57 := by simp [isD]

set_option maxHeartbeats 400000 in
theorem pnum_any (s : ByteArray) (most : Int) (w : World) (hs : s.size ≤ 140737488355328) (h0 : 0 ≤ most) (h1 : most ≤ 1000000) :
    Calls Tryd.prog 14 #[.string s, .int .i64 most] w fun e w' => e = .returned (.tuple #[.int .i64 ((pn most s.data.toList).getD 0), .bool (pn most s.data.toList).isSome]) ∧ w' = w := by
  by_cases hz : s.size = 0
  · have hl : s.data.toList = [] := List.eq_nil_of_length_eq_zero (by simpa using hz)
    have he : s.toList = [] := by rw [Lib.toList_data]; exact hl
    have hpn : pn most s.data.toList = none := by rw [hl]; exact pn_nil most
    rw [hpn]
    clear hl hpn
    go_enter Tryd.func14, Tryd.ntmps14
    go_wp2
    go_ret2
    exact ⟨rfl, rfl⟩
  · have hp : 0 < s.size := by omega
    have hl := drop_get s 0 hp
    simp only [List.drop_zero] at hl
    have hne : ¬ s.toList = [] := by rw [Lib.toList_data, hl]; simp
    have hne' : s.toList.isEmpty = false := by rw [Lib.toList_data, hl]; rfl
    by_cases h48 : s[0] = 48
    · have hpn : pn most s.data.toList = none := by unfold pn; rw [if_pos]; right; rw [hl, h48]; rfl
      have ht : (((s[0]'hp).toNat : Int) == 48) = true := by rw [h48]; rfl
      rw [hpn]
      clear hpn hl h48
      go_enter Tryd.func14, Tryd.ntmps14
      go_wp2
      go_ret2
      exact ⟨rfl, rfl⟩
    · have hpn : pn most s.data.toList = pnGo most s.data.toList 0 := by
        unfold pn; rw [if_neg]; rintro (x | x)
        · rw [hl] at x; simp at x
        · rw [hl] at x; simp at x; exact h48 x
      have ht : (((s[0]'hp).toNat : Int) == 48) = false := by
        rw [beq_eq_false_iff_ne]; intro e; apply h48; apply UInt8.toNat_inj.1; show s[0].toNat = 48; omega
      obtain ⟨r, hr⟩ : ∃ r, pn most s.data.toList = r := ⟨_, rfl⟩
      rw [hr]
      have HR : Hid (pnGo most (s.data.toList.drop 0) 0 = r) := by rw [List.drop_zero, ← hpn, hr]; rfl
      clear hpn hl h48 hr
      go_enter Tryd.func14, Tryd.ntmps14
      go_wp2
      go_loop [6, 18] (fun n i => ∃ k : Nat, ∃ m : Int, k ≤ s.size ∧ i = .int .i64 k ∧ n = .int .i64 m ∧ 0 ≤ m ∧ m ≤ most ∧ Hid (pnGo most (s.data.toList.drop k) m = r)) (fun _ i => s.size - (intOf i).toNat)
      case atStart => exact ⟨0, 0, Nat.zero_le _, rfl, rfl, by omega, by omega, HR⟩
      case round =>
        obtain ⟨k, m, hk, rfl, rfl, hm0, hm1, HK⟩ := hrel
        by_cases hlt : k < s.size
        · have hd := drop_get s k hlt
          have H := HK.out
          rw [hd] at H
          unfold pnGo at H
          by_cases hdig : isD s[k] = true
          · rw [if_pos hdig] at H
            have hb := (isD_eq _).1 hdig
            by_cases hov : most < m * 10 + dv s[k]
            · rw [if_pos hov] at H
              unfold dv at hov
              subst H
              clear hd hdig HK HR
              go_wp2
              go_ret2
              exact ⟨rfl, rfl⟩
            · rw [if_neg hov] at H
              have HH : Hid (pnGo most (List.drop (k + 1) s.data.toList) (m * 10 + dv s[k]) = r) := H
              unfold dv at hov
              clear hd hdig HK HR H
              go_wp2
              go_round
              case rel => exact ⟨k + 1, m * 10 + (↑s[k].toNat - 48), by omega, by go_num, rfl, by omega, by omega, HH⟩
              case measure => simp [intOf]; omega
          · rw [if_neg hdig] at H
            rw [isD_eq] at hdig
            subst H
            clear hd HK HR
            go_wp2
            all_goals
              go_ret2
              exact ⟨rfl, rfl⟩
        · have hke : k = s.size := by omega
          have H := HK.out
          rw [List.drop_eq_nil_of_le (by simp; omega)] at H
          simp only [pnGo] at H
          subst H
          clear HK HR hke
          go_wp2
          go_ret2
          exact ⟨rfl, rfl⟩

def dgN (o : Option (Int × Nat)) : Int := match o with | some (n, _) => n | none => 0
def dgE (at_ : Nat) (o : Option (Int × Nat)) : Int := match o with | some (_, k) => (at_ : Int) + k | none => -1

theorem dgGo_digit (most : Int) (c : UInt8) (l : List UInt8) (n : Int) (h : isD c = true) (hn : n ≤ most) : dgGo most (c :: l) n = ((dgGo most l (n * 10 + dv c)).1, (dgGo most l (n * 10 + dv c)).2 + 1) := by
  rw [show dgGo most (c :: l) n = if isD c = true ∧ n ≤ most then _ else _ from rfl, if_pos ⟨h, hn⟩]
theorem dgGo_stop (most : Int) (t : List UInt8) (n : Int) (h : ∀ c l, t = c :: l → ¬ (isD c = true ∧ n ≤ most)) : dgGo most t n = (n, 0) := by
  cases t with
  | nil => rfl
  | cons c l => rw [show dgGo most (c :: l) n = if isD c = true ∧ n ≤ most then _ else _ from rfl, if_neg (h c l rfl)]

theorem dg_bad {most m : Int} {k : Nat} {t : List UInt8} (hR : dgGo most t 0 = (m, k)) (h : k = 0 ∨ t.head? = some 48 ∨ most < m) : dg most t = none := by
  unfold dg; rw [hR, if_pos h]
theorem dg_good {most m : Int} {k : Nat} {t : List UInt8} (hR : dgGo most t 0 = (m, k)) (h : ¬ (k = 0 ∨ t.head? = some 48 ∨ most < m)) : dg most t = some (m, k) := by
  unfold dg; rw [hR, if_neg h]
theorem ret_ints {k : IntKind} {a b : Int} {x y : Int} (h : a = b) (h' : x = y) : Ending.returned (.tuple #[.int k a, .int k x]) = .returned (.tuple #[.int k b, .int k y]) := by rw [h, h']

set_option maxHeartbeats 1000000 in
theorem digits_any (s : ByteArray) (at_ : Nat) (most : Int) (w : World) (hs : s.size ≤ 140737488355328) (ha : at_ ≤ s.size) (h0 : 0 ≤ most) (h1 : most ≤ 1000000) :
    Calls Tryd.prog 9 #[.string s, .int .i64 at_, .int .i64 most] w fun e w' => e = .returned (.tuple #[.int .i64 (dgN (dg most (s.data.toList.drop at_))), .int .i64 (dgE at_ (dg most (s.data.toList.drop at_)))]) ∧ w' = w := by
  obtain ⟨o, ho⟩ : ∃ o, dg most (s.data.toList.drop at_) = o := ⟨_, rfl⟩
  rw [ho]
  have HO : Hid (dg most (s.data.toList.drop at_) = o) := ho
  clear ho
  go_enter Tryd.func9, Tryd.ntmps9
  go_wp2
  go_loop [8, 9] (fun n i => ∃ k : Nat, ∃ m : Int, at_ + k ≤ s.size ∧ i = .int .i64 ((at_ : Int) + k) ∧ n = .int .i64 m ∧ 0 ≤ m ∧ m ≤ 10000009 ∧ Hid (dgGo most (s.data.toList.drop at_) 0 = ((dgGo most (s.data.toList.drop (at_ + k)) m).1, (dgGo most (s.data.toList.drop (at_ + k)) m).2 + k))) (fun _ i => s.size - (intOf i).toNat)
  case atStart => exact ⟨0, 0, by omega, by simp, rfl, by omega, by omega, rfl⟩
  case round =>
    obtain ⟨k, m, hk, rfl, rfl, hm0, hm1, HK⟩ := hrel
    by_cases hgo : ∃ h : at_ + k < s.size, isD s[at_ + k] = true ∧ m ≤ most
    · obtain ⟨hlt, hdig, hmm⟩ := hgo
      have hd := drop_get s (at_ + k) hlt
      have H := HK.out
      rw [hd, dgGo_digit most _ _ m hdig hmm] at H
      have HH : Hid (dgGo most (s.data.toList.drop at_) 0 = ((dgGo most (List.drop (at_ + k + 1) s.data.toList) (m * 10 + dv s[at_ + k])).1, (dgGo most (List.drop (at_ + k + 1) s.data.toList) (m * 10 + dv s[at_ + k])).2 + 1 + k)) := H
      have hb := (isD_eq _).1 hdig
      have hlt' : (at_ : Int) + k < s.size := by omega
      clear H HK HO hd hdig
      go_wp2
      go_round
      case rel =>
        refine ⟨k + 1, 10 * m + ↑s[at_ + k].toNat - 48, by omega, by go_num, rfl, by omega, by omega, ?_⟩
        have hv : 10 * m + (s[at_ + k].toNat : Int) - 48 = m * 10 + dv s[at_ + k] := by unfold dv; omega
        rw [hv, show at_ + (k + 1) = at_ + k + 1 by omega]
        have := HH.out
        show _ = _
        rw [this]
        congr 1
        omega
      case measure => simp [intOf]; omega
    · have hR : dgGo most (s.data.toList.drop at_) 0 = (m, k) := by
        rw [HK.out, dgGo_stop most _ m]
        · simp
        · intro c l hcl hx
          apply hgo
          by_cases hlt : at_ + k < s.size
          · rw [drop_get s _ hlt] at hcl
            simp at hcl
            exact ⟨hlt, by rw [hcl.1]; exact hx.1, hx.2⟩
          · rw [List.drop_eq_nil_of_le (by simp; omega)] at hcl
            cases hcl
      have hO := HO.out
      have hwhy : (¬ ((at_ : Int) + k < s.size)) ∨ (∃ h : at_ + k < s.size, (s[at_ + k].toNat : Int) < 48) ∨ (∃ h : at_ + k < s.size, 57 < (s[at_ + k].toNat : Int)) ∨ (∃ h : at_ + k < s.size, 48 ≤ (s[at_ + k].toNat : Int) ∧ (s[at_ + k].toNat : Int) ≤ 57 ∧ most < m) := by
        by_cases hlt : at_ + k < s.size
        · right
          by_cases h48 : (s[at_ + k].toNat : Int) < 48
          · exact Or.inl ⟨hlt, h48⟩
          · by_cases h57 : 57 < (s[at_ + k].toNat : Int)
            · exact Or.inr (Or.inl ⟨hlt, h57⟩)
            · refine Or.inr (Or.inr ⟨hlt, by omega, by omega, ?_⟩)
              by_cases x : most < m
              · exact x
              · exact absurd ⟨hlt, (isD_eq _).2 ⟨by omega, by omega⟩, by omega⟩ hgo
        · left; omega
      clear HK HO hgo
      by_cases hk0 : k = 0
      · rw [dg_bad hR (Or.inl hk0)] at hO
        subst hO
        subst hk0
        clear hR
        simp only [Nat.add_zero, Int.natCast_zero, Int.add_zero] at hwhy hk ⊢
        rcases hwhy with hr | ⟨hr, hr1⟩ | ⟨hr, hr1⟩ | ⟨hr, hr1, hr2, hr3⟩
        all_goals
          go_wp2
          go_ret2
          exact ⟨rfl, rfl⟩
      · have hat : at_ < s.size := by omega
        have hd := drop_get s at_ hat
        have hh : (s.data.toList.drop at_).head? = some s[at_] := by rw [hd]; rfl
        have hne : (((at_ : Int) + (k : Int)) == (at_ : Int)) = false := by rw [beq_eq_false_iff_ne]; omega
        by_cases h48 : s[at_] = 48
        · rw [dg_bad hR (Or.inr (Or.inl (by rw [hh, h48])))] at hO
          subst hO
          have ht : ((s[at_].toNat : Int) == 48) = true := by rw [h48]; rfl
          clear h48 hd hh hR
          rcases hwhy with hr | ⟨hr, hr1⟩ | ⟨hr, hr1⟩ | ⟨hr, hr1, hr2, hr3⟩
          all_goals
            go_wp2
            go_ret2
            exact ⟨rfl, rfl⟩
        · have ht : ((s[at_].toNat : Int) == 48) = false := by
            rw [beq_eq_false_iff_ne]; intro e; apply h48; apply UInt8.toNat_inj.1; show s[at_].toNat = 48; omega
          by_cases hov : most < m
          · rw [dg_bad hR (Or.inr (Or.inr hov))] at hO
            subst hO
            clear h48 hd hh hR
            rcases hwhy with hr | ⟨hr, hr1⟩ | ⟨hr, hr1⟩ | ⟨hr, hr1, hr2, hr3⟩
            all_goals
              go_wp2
              go_ret2
              exact ⟨rfl, rfl⟩
          · rw [dg_good hR (by rintro (x | x | x); exact hk0 x; exact h48 (by simpa [hh] using x); exact hov x)] at hO
            subst hO
            clear h48 hd hh hR
            rcases hwhy with hr | ⟨hr, hr1⟩ | ⟨hr, hr1⟩ | ⟨hr, hr1, hr2, hr3⟩
            · go_wp2
              go_ret2
              exact ⟨rfl, rfl⟩
            · go_wp2
              go_ret2
              exact ⟨rfl, rfl⟩
            · go_wp2
              go_ret2
              exact ⟨rfl, rfl⟩
            · omega
end Go.Proofs.YtikbfhhkkplpbaaDoor
