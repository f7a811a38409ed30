/-
  The walk of tether/tetherref.Parse (4).
-/
import Derived.Test.YtikbfhhkkplpbaaDoorParse
namespace Go.Proofs.YtikbfhhkkplpbaaDoor
open Go.RowKit Pl

theorem own_shape {w : World} {base : Nat} {e : TypeId} {size : Nat} {v : Value} {n : Nat} {xs : List Value} (h : w.ownsRow base e size v n xs) : ∃ ao cap, v = .slice ao n cap := by
  rcases h.2 with ⟨rfl, rfl⟩ | ⟨g, cap, _, rfl, _⟩
  · exact ⟨none, 0, rfl⟩
  · exact ⟨_, cap, rfl⟩

theorem rp1 (f : Nat) (t : List UInt8) (h : dg 20 t = none) : rp (f + 1) t = none := by simp [rp, one, h]
theorem rp2 (f : Nat) (t : List UInt8) (c : Int) (k : Nat) (h : dg 20 t = some (c, k)) (h2 : t.drop k = []) : rp (f + 1) t = none := by simp [rp, one, h, h2]
theorem rp3 (f : Nat) (t : List UInt8) (c : Int) (k : Nat) (x : UInt8) (t2 : List UInt8) (h : dg 20 t = some (c, k)) (h2 : t.drop k = x :: t2) (h3 : x ≠ 120) : rp (f + 1) t = none := by simp [rp, one, h, h2, h3]
theorem rp4 (f : Nat) (t : List UInt8) (c : Int) (k : Nat) (t2 : List UInt8) (h : dg 20 t = some (c, k)) (h2 : t.drop k = 120 :: t2) (h3 : dg 1000000 t2 = none) : rp (f + 1) t = none := by simp [rp, one, h, h2, h3]
theorem rp5 (t : List UInt8) : rp 1 t = none := by unfold rp; split <;> simp
theorem rp6 (f : Nat) (t : List UInt8) (c : Int) (k : Nat) (t2 : List UInt8) (n : Int) (k2 : Nat) (h : dg 20 t = some (c, k)) (h2 : t.drop k = 120 :: t2) (h3 : dg 1000000 t2 = some (n, k2)) (h4 : t2.drop k2 = []) : rp (f + 2) t = some [(c, n)] := by simp [rp, one, h, h2, h3, h4]
theorem rp7 (f : Nat) (t : List UInt8) (c : Int) (k : Nat) (t2 : List UInt8) (n : Int) (k2 : Nat) (b : UInt8) (t4 : List UInt8) (h : dg 20 t = some (c, k)) (h2 : t.drop k = 120 :: t2) (h3 : dg 1000000 t2 = some (n, k2)) (h4 : t2.drop k2 = b :: t4) (h5 : b ≠ 32) : rp (f + 2) t = none := by
  rw [show rp (f + 2) t = match one t with | none => none | some (r, rest) => if f + 1 = 0 then none else (match rest with | [] => some [r] | b :: t4 => if b = 32 then (rp (f + 1) t4).map (r :: ·) else none) from rfl]
  simp [one, h, h2, h3, h4, h5]
theorem rp8 (f : Nat) (t : List UInt8) (c : Int) (k : Nat) (t2 : List UInt8) (n : Int) (k2 : Nat) (t4 : List UInt8) (h : dg 20 t = some (c, k)) (h2 : t.drop k = 120 :: t2) (h3 : dg 1000000 t2 = some (n, k2)) (h4 : t2.drop k2 = 32 :: t4) : rp (f + 2) t = (rp (f + 1) t4).map ((c, n) :: ·) := by
  rw [show rp (f + 2) t = match one t with | none => none | some (r, rest) => if f + 1 = 0 then none else (match rest with | [] => some [r] | b :: t4 => if b = 32 then (rp (f + 1) t4).map (r :: ·) else none) from rfl]
  simp [one, h, h2, h3, h4]

theorem drop_end (s : ByteArray) (k : Nat) (h : s.size ≤ k) : s.data.toList.drop k = [] := List.drop_eq_nil_of_le (by simpa using h)
theorem dg_len (most : Int) (s : ByteArray) (a k : Nat) (n : Int) (ha : a ≤ s.size) (h : dg most (s.data.toList.drop a) = some (n, k)) : a + k ≤ s.size := by
  have := (dg_to most _ n k h).1
  simp at this
  omega
theorem byte_ne120 {x : UInt8} (h : ¬ x = 120) : (((x.toNat : Nat) : Int) != 120) = true := by
  rw [bne_iff_ne]; intro e; apply h; apply UInt8.toNat_inj.1; show x.toNat = 120; omega
theorem byte_ne32 {x : UInt8} (h : ¬ x = 32) : (((x.toNat : Nat) : Int) != 32) = true := by
  rw [bne_iff_ne]; intro e; apply h; apply UInt8.toNat_inj.1; show x.toNat = 32; omega

theorem cells_two (w : World) (a b : Value) : ∀ j u, [a, b][j]? = some u → (w.alloc (.cells #[a, b] 34)).cell? ((⟨w.heap.size, 0, none⟩ : Addr).add j) = some u := by
  intro j u hj
  match j, hj with
  | 0, hj => simp at hj; subst hj; simp [Addr.add]
  | 1, hj => simp at hj; subst hj; simp [Addr.add]
theorem two_one (a b : Int) : ∀ u ∈ [Value.int .i64 a, .int .i64 b], u.oneCell' = true := by
  intro u hu; simp at hu; rcases hu with rfl | rfl <;> rfl

set_option maxHeartbeats 1000000 in
theorem rparse_any (s : ByteArray) (w : World) (hs : s.size ≤ 140737488351232) :
    Calls Tryd.prog 4 #[.string s] w fun e w' => ∃ v, e = .returned (.tuple #[v, .int .i64 (en (rp 5 (dl s)))]) ∧ w'.ownsRow w.heap.size 34 2 v ((rp 5 (dl s)).getD []).length (rc ((rp 5 (dl s)).getD [])) ∧ Below w.heap.size w w' := by
  obtain ⟨i0, hi, hz0, hz1, hz2⟩ := info_parts info34
  obtain ⟨R, hR⟩ : ∃ R, rp 5 (dl s) = R := ⟨_, rfl⟩
  rw [hR]
  have HR : Hid (rp 5 (dl s) = R) := hR
  clear hR
  go_enter Tryd.func4, Tryd.ntmps4
  go_wp2
  go_loopg [4, 5, 6] 6 (fun g v a m wr => ∃ (rs : List (Int × Int)) (at_ : Nat) (mo : Bool) (ao : Option Addr) (cap : Nat), v = .slice ao rs.length cap ∧ a = .int .i64 at_ ∧ m = .bool mo ∧ rs.length ≤ 4 ∧ wr.ownsRow w.heap.size 34 2 (.slice ao rs.length cap) rs.length (rc rs) ∧ Below w.heap.size w wr ∧
      (g = if mo then 6 - rs.length else 0) ∧ (mo = true → at_ ≤ s.size ∧ Hid (R = (rp (5 - rs.length) (s.data.toList.drop at_)).map (rs ++ ·))) ∧ Hid (mo = false → R = some rs))
  case atStart => exact ⟨[], 0, true, none, 0, rfl, rfl, rfl, by simp, World.ownsRow_nil _ _ _ _, Below.refl _ _, rfl, fun _ => ⟨Nat.zero_le _, HR.out.symm.trans (mna _)⟩, fun h => by cases h⟩
  case round =>
    obtain ⟨rs, at_, mo, ao, cap, rfl, rfl, rfl, hrl, hown, hbl, hg, hmo, HF⟩ := hrel
    cases mo with
    | false =>
      have := HF.out rfl
      subst this
      clear HF hmo HR
      go_wp2
      go_ret2
      exact ⟨_, rfl, hown, hbl⟩
    | true =>
      obtain ⟨ha, HK⟩ := hmo rfl
      clear hmo HF HR
      simp only [if_true] at hg
      obtain ⟨f, hf⟩ : ∃ f, 5 - rs.length = f + 1 := ⟨4 - rs.length, by omega⟩
      have hK := HK.out
      rw [hf] at hK
      have HD := digits_any s at_ 20 wr (by omega) ha (by decide) (by decide)
      -- what a way that ends in an error owes
      have bad : ∀ {w' : World} {R' : Option (List (Int × Int))}, R' = none → Below w.heap.size w w' → ∃ v, Ending.returned (.tuple #[.slice none 0 0, .int .i64 2]) = .returned (.tuple #[v, .int .i64 (en R')]) ∧ w'.ownsRow w.heap.size 34 2 v (R'.getD []).length (rc (R'.getD [])) ∧ Below w.heap.size w w' := fun e hb => by
        subst e; exact ⟨_, rfl, World.ownsRow_nil _ _ _ _, hb⟩
      have BAD : Hid _ := @bad
      clear bad
      cases h1 : dg 20 (s.data.toList.drop at_) with
      | none =>
        rw [h1] at HD
        rw [rp1 f _ h1] at hK
        simp only [Option.map_none] at hK
        have HKK : Hid _ := hK
        clear hK HK h1
        go_wp2_with (go_at_call 9; refine HD.mono ?_; rintro e w' ⟨rfl, rfl⟩; simp only [dgN, dgE])
        go_ret2
        exact BAD.out HKK.out hbl
      | some x =>
        obtain ⟨c, k⟩ := x
        have hk := dg_len 20 s at_ k c ha h1
        rw [h1] at HD
        have p0 : (0 : Int) ≤ (at_ : Int) + (k : Int) := by omega
        by_cases hlt : at_ + k < s.size
        · have hd := drop_get s (at_ + k) hlt
          have hltz : (at_ : Int) + (k : Int) < (s.size : Int) := by omega
          by_cases hx : s[at_ + k] = 120
          · have ht : ((s[at_ + k].toNat : Int) != 120) = false := by rw [hx]; rfl
            have h2 : (s.data.toList.drop at_).drop k = 120 :: s.data.toList.drop (at_ + k + 1) := by rw [List.drop_drop, hd, hx]
            have HD2 := digits_any s (at_ + k + 1) 1000000 wr (by omega) (by omega) (by decide) (by decide)
            rw [show ((at_ + k + 1 : Nat) : Int) = (at_ : Int) + (k : Int) + 1 by omega] at HD2
            cases h3 : dg 1000000 (s.data.toList.drop (at_ + k + 1)) with
            | none =>
              rw [h3] at HD2
              rw [rp4 f _ c k _ h1 h2 h3] at hK
              simp only [Option.map_none] at hK
              have HKK : Hid _ := hK
              clear hK HK h1 h2 h3 hd hx
              go_wp2_with fail
              refine HD.mono ?_
              rintro e w' ⟨rfl, rfl⟩
              simp only [dgN, dgE]
              go_wp2_with fail
              refine HD2.mono ?_
              rintro e w' ⟨rfl, rfl⟩
              simp only [dgN, dgE]
              go_wp2
              go_ret2
              exact BAD.out HKK.out hbl
            | some y =>
              obtain ⟨n, k2⟩ := y
              rw [h3] at HD2
              have hk2 := dg_len 1000000 s (at_ + k + 1) k2 n (by omega) h3
              have p2 : (0 : Int) ≤ (at_ : Int) + (k : Int) + 1 + (k2 : Int) := by omega
              by_cases h4 : rs.length = 4
              · have hf0 : f = 0 := by omega
                subst hf0
                rw [rp5] at hK
                simp only [Option.map_none] at hK
                have HKK : Hid _ := hK
                have h4b : ((rs.length : Int) == 4) = true := by rw [h4]; rfl
                clear hK HK h1 h2 h3 hd hx h4 hf
                go_wp2_with fail
                refine HD.mono ?_
                rintro e w' ⟨rfl, rfl⟩
                simp only [dgN, dgE]
                go_wp2_with fail
                refine HD2.mono ?_
                rintro e w' ⟨rfl, rfl⟩
                simp only [dgN, dgE]
                go_wp2
                go_ret2
                exact BAD.out HKK.out hbl
              · obtain ⟨f', rfl⟩ : ∃ f', f = f' + 1 := ⟨f - 1, by omega⟩
                have h4b : ((rs.length : Int) == 4) = false := by rw [beq_eq_false_iff_ne]; omega
                have hrl3 : rs.length ≤ 3 := by omega
                by_cases hlt2 : at_ + k + 1 + k2 < s.size
                · have hd2 := drop_get s (at_ + k + 1 + k2) hlt2
                  have hltz2 : (at_ : Int) + (k : Int) + 1 + (k2 : Int) < (s.size : Int) := by omega
                  by_cases hb : s[at_ + k + 1 + k2] = 32
                  · have htb : ((s[at_ + k + 1 + k2].toNat : Int) != 32) = false := by rw [hb]; rfl
                    rw [rp8 f' _ c k _ n k2 _ h1 h2 h3 (by rw [List.drop_drop, hd2, hb]), mns] at hK
                    have HKK : Hid _ := hK
                    clear hK HK h1 h2 h3 hd hx h4 hd2 hb
                    go_wp2_with fail
                    refine HD.mono ?_
                    rintro e w1 ⟨rfl, hw⟩
                    rw [hw]
                    clear hw
                    simp only [dgN, dgE]
                    go_wp2_with fail
                    refine HD2.mono ?_
                    rintro e w2 ⟨rfl, hw⟩
                    rw [hw]
                    clear hw
                    simp only [dgN, dgE]
                    go_wp2_with (at_builtin; refine wpList_append_own _ rfl (.tmp 46) (.tmp 50) 22 rfl w.heap.size 34 i0 _ 2 16 Tryd.underlying22 hi hz0 hz1 hz2 rfl (by decide) _ _ _ rfl (hown.alloc _) ⟨wr.heap.size, 0, none⟩ 1 1 [.int .i64 c, .int .i64 n] rfl rfl (cells_two _ _ _) (two_one _ _) (by unfold maxLen; omega) (by omega) (by have := hbl.size; simp; omega) ?_)
                    intro v' w3 hown3 hgrow3 _
                    obtain ⟨ao', cap', rfl⟩ := own_shape hown3
                    have hb3 : Below w.heap.size w w3 := (hbl.alloc hbl.size _).grown hgrow3 (by have := hbl.size; simp; omega) (fun j e => (hown.lt j e).1)
                    clear hgrow3 HD HD2 hown hbl
                    go_wp2
                    go_roundg (6 - (rs.length + 1))
                    case measure => omega
                    case rel =>
                      refine ⟨rs ++ [(c, n)], at_ + k + 1 + k2 + 1, true, ao', cap', by simp, by go_num, rfl, by simp; omega, ?_, hb3, by simp, fun _ => ⟨by omega, ?_⟩, fun h => by cases h⟩
                      · rw [rc_app, List.length_append]; exact hown3
                      · show R = _
                        rw [HKK.out, List.length_append, show 5 - (rs.length + [(c, n)].length) = f' + 1 by simp; omega]
                  · have htb : ((s[at_ + k + 1 + k2].toNat : Int) != 32) = true := byte_ne32 hb
                    rw [rp7 f' _ c k _ n k2 _ _ h1 h2 h3 (by rw [List.drop_drop, hd2]) hb] at hK
                    simp only [Option.map_none] at hK
                    have HKK : Hid _ := hK
                    clear hK HK h1 h2 h3 hd hx h4 hd2 hb
                    go_wp2_with fail
                    refine HD.mono ?_
                    rintro e w1 ⟨rfl, hw⟩
                    rw [hw]
                    clear hw
                    simp only [dgN, dgE]
                    go_wp2_with fail
                    refine HD2.mono ?_
                    rintro e w2 ⟨rfl, hw⟩
                    rw [hw]
                    clear hw
                    simp only [dgN, dgE]
                    go_wp2_with (at_builtin; refine wpList_append_own _ rfl (.tmp 46) (.tmp 50) 22 rfl w.heap.size 34 i0 _ 2 16 Tryd.underlying22 hi hz0 hz1 hz2 rfl (by decide) _ _ _ rfl (hown.alloc _) ⟨wr.heap.size, 0, none⟩ 1 1 [.int .i64 c, .int .i64 n] rfl rfl (cells_two _ _ _) (two_one _ _) (by unfold maxLen; omega) (by omega) (by have := hbl.size; simp; omega) ?_)
                    intro v' w3 hown3 hgrow3 _
                    obtain ⟨ao', cap', rfl⟩ := own_shape hown3
                    have hb3 : Below w.heap.size w w3 := (hbl.alloc hbl.size _).grown hgrow3 (by have := hbl.size; simp; omega) (fun j e => (hown.lt j e).1)
                    clear hgrow3 HD HD2 hown hbl
                    go_wp2
                    go_ret2
                    exact BAD.out HKK.out hb3
                · have hltz2 : ¬ (at_ : Int) + (k : Int) + 1 + (k2 : Int) < (s.size : Int) := by omega
                  rw [rp6 f' _ c k _ n k2 h1 h2 h3 (by rw [List.drop_drop]; exact drop_end s _ (by omega))] at hK
                  have HKK : Hid _ := hK
                  clear hK HK h1 h2 h3 hd hx h4
                  go_wp2_with fail
                  refine HD.mono ?_
                  rintro e w1 ⟨rfl, hw⟩
                  rw [hw]
                  clear hw
                  simp only [dgN, dgE]
                  go_wp2_with fail
                  refine HD2.mono ?_
                  rintro e w2 ⟨rfl, hw⟩
                  rw [hw]
                  clear hw
                  simp only [dgN, dgE]
                  go_wp2_with (at_builtin; refine wpList_append_own _ rfl (.tmp 46) (.tmp 50) 22 rfl w.heap.size 34 i0 _ 2 16 Tryd.underlying22 hi hz0 hz1 hz2 rfl (by decide) _ _ _ rfl (hown.alloc _) ⟨wr.heap.size, 0, none⟩ 1 1 [.int .i64 c, .int .i64 n] rfl rfl (cells_two _ _ _) (two_one _ _) (by unfold maxLen; omega) (by omega) (by have := hbl.size; simp; omega) ?_)
                  intro v' w3 hown3 hgrow3 _
                  obtain ⟨ao', cap', rfl⟩ := own_shape hown3
                  have hb3 : Below w.heap.size w w3 := (hbl.alloc hbl.size _).grown hgrow3 (by have := hbl.size; simp; omega) (fun j e => (hown.lt j e).1)
                  clear hgrow3 HD HD2 hown hbl
                  go_wp2
                  go_roundg 0
                  case measure => omega
                  case rel =>
                    refine ⟨rs ++ [(c, n)], at_ + k + 1 + k2 + 1, false, ao', cap', by simp, by go_num, rfl, by simp; omega, ?_, hb3, by simp, fun h => (by cases h), fun _ => HKK.out⟩
                    rw [rc_app, List.length_append]; exact hown3
          · have ht : ((s[at_ + k].toNat : Int) != 120) = true := byte_ne120 hx
            rw [rp3 f _ c k _ _ h1 (by rw [List.drop_drop, hd]) hx] at hK
            simp only [Option.map_none] at hK
            have HKK : Hid _ := hK
            clear hK HK h1 hd hx
            go_wp2_with (go_at_call 9; refine HD.mono ?_; rintro e w' ⟨rfl, rfl⟩; simp only [dgN, dgE])
            go_ret2
            exact BAD.out HKK.out hbl
        · rw [rp2 f _ c k h1 (by rw [List.drop_drop]; exact drop_end s _ (by omega))] at hK
          simp only [Option.map_none] at hK
          have hltz : ¬ (at_ : Int) + (k : Int) < (s.size : Int) := by omega
          have HKK : Hid _ := hK
          clear hK HK h1
          go_wp2_with (go_at_call 9; refine HD.mono ?_; rintro e w' ⟨rfl, rfl⟩; simp only [dgN, dgE])
          go_ret2
          exact BAD.out HKK.out hbl
end Go.Proofs.YtikbfhhkkplpbaaDoor
