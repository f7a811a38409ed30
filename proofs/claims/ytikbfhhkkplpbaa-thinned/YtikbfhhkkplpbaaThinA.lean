/-
  The walks of tether/tetherkeep.pick (10), times (11).
-/
import Derived.Test.YtikbfhhkkplpbaaLaw
namespace Go.Proofs.Ytikbfhhkkplpbaa
open Go.RowKit Pl

theorem rem_ok {x n : Int} (h0 : 0 ≤ x) (hn : 1 ≤ n) : 0 ≤ Int.tmod x n ∧ Int.tmod x n < n := by
  rw [Int.tmod_eq_emod_of_nonneg h0]
  exact ⟨Int.emod_nonneg _ (by omega), Int.emod_lt_of_pos _ (by omega)⟩

set_option maxHeartbeats 400000 in
theorem pick_any (c n : Int) (w : World) (hc : -9223372036854775808 ≤ c ∧ c ≤ 9223372036854775807) (hn : 1 ≤ n) (hn2 : n ≤ 2000000000) :
    Calls Try.prog 10 #[.int .i64 c, .int .i64 n] w fun e w' => ∃ r : Int, 0 ≤ r ∧ r < n ∧ e = .returned (.int .i64 r) ∧ w' = w := by
  obtain ⟨c1, c2⟩ := hc
  have hz : ¬ n = 0 := by omega
  by_cases h0 : c < 0
  · have hr := rem_ok (x := -(c + 1)) (n := n) (by omega) hn
    rw [Int.neg_tmod] at hr
    go_enter Try.func10, Try.ntmps10
    go_wp2
    go_ret
    refine ⟨_, hr.1, hr.2, ?_, rfl⟩
    go_num
  · have hr := rem_ok (x := c) (n := n) (by omega) hn
    rw [Int.tmod_eq_emod_of_nonneg (by omega)] at hr
    go_enter Try.func10, Try.ntmps10
    go_wp2
    go_ret
    refine ⟨_, hr.1, hr.2, ?_, rfl⟩
    go_num

theorem int_one (z : Int) : ∀ u ∈ [Value.int .i64 z], u.oneCell' = true := by
  intro u hu
  simp at hu
  subst hu
  rfl
theorem zc_next (ts : List Int) (r : Int) : zc (ts ++ [r]) = zc ts ++ [.int .i64 r] := by
  unfold zc
  rw [List.length_append, List.length_singleton, List.range_succ, List.map_append]
  congr 1
  · apply List.map_congr_left
    intro i hi
    have hi' := List.mem_range.1 hi
    simp [tm, List.getD_eq_getElem?_getD, List.getElem?_append_left hi']
  · simp [tm, List.getD_eq_getElem?_getD]

/-- The raw numbers are numbers of 64 bits. -/
def Bnd (zs : List Int) : Prop := ∀ i, i < zs.length → -9223372036854775808 ≤ tm zs i ∧ tm zs i ≤ 9223372036854775807

set_option maxHeartbeats 1000000 in
theorem times_any (ao : Option Addr) (zs : List Int) (cap : Nat) (w : World) (h : RowI w ao zs cap) (hB : Bnd zs) (hz : zs.length ≤ 17592186044416) :
    Calls Try.prog 11 #[.slice ao zs.length cap] w fun e w' => ∃ v ts, e = .returned v ∧ ts.length ≤ 60 ∧ ts.all okT = true ∧ w'.ownsRow w.heap.size 3 1 v ts.length (zc ts) ∧ Below w.heap.size w w' := by
  obtain ⟨i0, hi, hz0, hz1, hz2⟩ := info_parts info3
  have HR : Hid (RowI w ao zs cap) := h
  have HB : Hid (Bnd zs) := hB
  clear h hB
  go_enter Try.func11, Try.ntmps11
  go_wp2
  go_loopw [3, 4] (fun vg i wr => ∃ (k : Nat) (ts : List Int), k ≤ zs.length ∧ k ≤ 60 ∧ i = .int .i64 k ∧ Hid (ts.length = k ∧ ts.all okT = true) ∧ Hid (wr.ownsRow w.heap.size 3 1 vg k (zc ts) ∧ Below w.heap.size w wr)) (fun _ i _ => 60 - (intOf i).toNat)
  case atStart => exact ⟨0, [], Nat.zero_le _, Nat.zero_le _, rfl, ⟨rfl, rfl⟩, ⟨World.ownsRow_nil _ _ _ _, Below.refl _ _⟩⟩
  case round =>
    obtain ⟨k, ts, hk, hk6, rfl, HT, HO⟩ := hrel
    obtain ⟨W3, hW3⟩ : ∃ W3, W3 = wr := ⟨_, rfl⟩
    subst hW3
    obtain ⟨aa, cc, hsh⟩ := own_shape HO.out.1
    subst hsh
    by_cases hlt : k < zs.length
    · by_cases hlt6 : k < 60
      · obtain ⟨b, off, hao, hc⟩ := (RowI.below HR.out HO.out.2).2 (by omega)
        subst hao
        have d1 : W3.cell? ⟨b, off + k, none⟩ = some (.int .i64 (tm zs k)) := hc k hlt
        have hcap := HR.out.1
        have HP : Hid (∀ W, _) := fun W => pick_any (tm zs k) 1073741825 W (HB.out k hlt) (by omega) (by omega)
        obtain ⟨x, hx⟩ : ∃ x, tm zs k = x := ⟨_, rfl⟩
        rw [hx] at d1 HP
        clear hc hx
        have hsz : w.heap.size ≤ W3.heap.size := HO.out.2.size
        have hO := HO.out.1
        go_wp2_with (first | (go_at_call 10; refine (HP.out _).mono ?_; rintro e w1 ⟨r, r0, r1, rfl, hw⟩; rw [hw]; clear hw) | (at_builtin; refine wpList_append_own _ rfl (.tmp 15) (.tmp 21) 22 rfl w.heap.size 3 i0 _ 1 8 Try.underlying22 hi hz0 hz1 hz2 rfl (by decide) _ _ _ rfl (hO.alloc _) ⟨W3.heap.size, 0, none⟩ 1 1 [.int .i64 r] rfl rfl (cells_one _ _ _) (int_one _) (by unfold maxLen; omega) (by omega) (by simp; omega) ?_))
        intro v' w9 hown9 hgrow9 _
        have HT9 : Hid ((ts ++ [r]).length = k + 1 ∧ (ts ++ [r]).all okT = true) := ⟨by simp [HT.out.1], by rw [List.all_append, HT.out.2]; simp [okT]; omega⟩
        have HO9 : Hid (w9.ownsRow w.heap.size 3 1 v' (k + 1) (zc (ts ++ [r])) ∧ Below w.heap.size w w9) := ⟨by rw [zc_next]; exact hown9, (HO.out.2.alloc hsz _).grown hgrow9 (by simp; omega) (fun b e => (hO.lt b e).1)⟩
        clear hown9 hgrow9 HO HP
        go_wp2
        go_roundw
        case rel => exact ⟨k + 1, ts ++ [r], by omega, by omega, by go_num, HT9, HO9⟩
        case measure => simp [intOf]; omega
      · go_wp2
        go_ret
        exact ⟨_, ts, rfl, by rw [HT.out.1]; omega, HT.out.2, by rw [HT.out.1]; exact HO.out.1, HO.out.2⟩
    · go_wp2
      go_ret
      exact ⟨_, ts, rfl, by rw [HT.out.1]; omega, HT.out.2, by rw [HT.out.1]; exact HO.out.1, HO.out.2⟩
end Go.Proofs.Ytikbfhhkkplpbaa
