/-
  The walk of tether/tetherkeep.rules (12).
-/
import Derived.Test.YtikbfhhkkplpbaaThinA
import Derived.Deep.RegionHeld3
import Derived.Deep.AppendLies
namespace Go.Proofs.Ytikbfhhkkplpbaa
open Go.RowKit Pl

theorem rcl_next (rs : List (Int × Int)) (a b : Int) : rcl (rs ++ [(a, b)]) = rcl rs ++ [.int .i64 a, .int .i64 b] := by simp [rcl]
theorem info25t : (Try.prog.info? 25).map (fun i => (i.zero, i.size, i.bytes)) = some (some (.agg #[.int .i64 0, .int .i64 0]), 2, 16) := by kernel_rfl
theorem own_rowR {w : World} {base : Nat} {ao : Option Addr} {cap : Nat} {rs : List (Int × Int)} (h : w.ownsRow base 25 2 (.slice ao rs.length cap) rs.length (rcl rs)) : RowR w ao rs cap := by
  rcases h.2 with ⟨h1, h2⟩ | ⟨g, c, cur, h1, hb, hg, hc, _⟩
  · simp at h1
    obtain ⟨rfl, h1, rfl⟩ := h1
    exact ⟨by simp [h1], fun h => by simp [h1] at h⟩
  · simp at h1
    obtain ⟨rfl, rfl⟩ := h1
    refine ⟨hc, fun _ => ⟨g, 0, rfl, fun i hi => ?_⟩⟩
    have hg := rcl_get rs i hi
    exact ⟨by rw [Nat.zero_add, h.cellAt (i * 2) (by omega)]; exact hg.1, by rw [Nat.zero_add, h.cellAt (i * 2 + 1) (by omega)]; exact hg.2⟩
theorem own_rowI {w : World} {base : Nat} {ao : Option Addr} {cap : Nat} {zs : List Int} (h : w.ownsRow base 3 1 (.slice ao zs.length cap) zs.length (zc zs)) : RowI w ao zs cap := by
  rcases h.2 with ⟨h1, h2⟩ | ⟨g, c, cur, h1, hb, hg, hc, _⟩
  · simp at h1
    obtain ⟨rfl, h1, rfl⟩ := h1
    exact ⟨by simp [h1], fun h => by simp [h1] at h⟩
  · simp at h1
    obtain ⟨rfl, rfl⟩ := h1
    refine ⟨hc, fun _ => ⟨g, 0, rfl, fun i hi => ?_⟩⟩
    rw [Nat.zero_add, h.cellAt i (by omega)]; exact zc_get zs i hi

theorem wrap_small (x : Int) (h0 : 0 ≤ x) (h1 : x ≤ 2000000000) : IntKind.i64.wrap x = x := by simp [IntKind.wrap, IntKind.bits, IntKind.signed]; omega

set_option maxRecDepth 100000 in
set_option maxHeartbeats 3200000 in
theorem rules_any (ao : Option Addr) (zs : List Int) (cap : Nat) (w : World) (h : RowI w ao zs cap) (hB : Bnd zs) (hz : zs.length ≤ 17592186044416) :
    Calls Try.prog 12 #[.slice ao zs.length cap] w fun e w' => ∃ v rs, e = .returned v ∧ okRs rs = true ∧ w'.ownsRow w.heap.size 25 2 v rs.length (rcl rs) ∧ Below w.heap.size w w' := by
  obtain ⟨i0, hi, hz0, hz1, hz2⟩ := info_parts info25t
  have HR : Hid (RowI w ao zs cap) := h
  have HB : Hid (Bnd zs) := hB
  clear h hB
  go_enter Try.func12, Try.ntmps12
  go_wp2
  go_loopw [3, 4] (fun vg i wr => ∃ (k : Nat) (rs : List (Int × Int)), k ≤ 4 ∧ i = .int .i64 ((2 * k : Nat) : Int) ∧ Hid (rs.length = k ∧ rs.all okR = true) ∧ Hid (wr.ownsRow w.heap.size 25 2 vg k (rcl rs) ∧ Below w.heap.size w wr)) (fun _ i _ => 8 - (intOf i).toNat)
  case atStart => exact ⟨0, [], Nat.zero_le _, rfl, ⟨rfl, rfl⟩, ⟨World.ownsRow_nil _ _ _ _, Below.refl _ _⟩⟩
  case round =>
    obtain ⟨k, rs, hk, rfl, HT, HO⟩ := hrel
    obtain ⟨W3, hW3⟩ : ∃ W3, W3 = wr := ⟨_, rfl⟩
    subst hW3
    obtain ⟨aa, cc, hsh⟩ := own_shape HO.out.1
    subst hsh
    obtain ⟨m, hm⟩ : ∃ m, m = 2 * k := ⟨_, rfl⟩
    rw [← hm]
    have HM : Hid (m = 2 * k) := hm
    have hm8 : m ≤ 8 := by omega
    clear hm
    have HE : Hid (∃ v rs, Ending.returned (.slice aa k cc) = .returned v ∧ okRs rs = true ∧ W3.ownsRow w.heap.size 25 2 v rs.length (rcl rs) ∧ Below w.heap.size w W3) := by
      refine ⟨_, rs, rfl, ?_, by rw [HT.out.1]; exact HO.out.1, HO.out.2⟩
      rw [okRs, HT.out.2, HT.out.1]
      simpa using hk
    by_cases hlt : m + 1 < zs.length
    · by_cases hlt6 : m < 8
      · have hk4 : k < 4 := by have := HM.out; omega
        obtain ⟨b, off, hao, hc⟩ := (RowI.below HR.out HO.out.2).2 (by omega)
        obtain ⟨b', off', hao', hc'⟩ := HR.out.2 (by omega)
        have hbb : b = b' := by rw [hao] at hao'; simp at hao'; exact hao'.1
        have hbl : b < w.heap.size := by rw [hbb]; exact World.block_lt_of_cell? _ _ (hc' 0 (by omega))
        subst hao
        have d1 : W3.cell? ⟨b, off + m, none⟩ = some (.int .i64 (tm zs m)) := hc m (by omega)
        have d2 : W3.cell? ⟨b, off + (m + 1), none⟩ = some (.int .i64 (tm zs (m + 1))) := hc (m + 1) (by omega)
        have hcap := HR.out.1
        have HP1 : Hid (∀ W, _) := fun W => pick_any (tm zs m) 20 W (HB.out m (by omega)) (by omega) (by omega)
        have HP2 : Hid (∀ W, _) := fun W => pick_any (tm zs (m + 1)) 1000000 W (HB.out (m + 1) (by omega)) (by omega) (by omega)
        obtain ⟨x, hx⟩ : ∃ x, tm zs m = x := ⟨_, rfl⟩
        obtain ⟨y, hy⟩ : ∃ y, tm zs (m + 1) = y := ⟨_, rfl⟩
        rw [hx] at d1 HP1
        rw [hy] at d2 HP2
        have hsz : w.heap.size ≤ W3.heap.size := HO.out.2.size
        have hbl3 : b < W3.heap.size := by omega
        have HOW : Hid (W3.ownsRow w.heap.size 25 2 (.slice aa k cc) k (rcl rs)) := HO.out.1
        have hne : (Value.slice aa k cc).ownBlock ≠ some b := fun e => by have := (HO.out.1.lt b e).1; omega
        clear hc hc' hx hy hao' hbb HE
        have i0' : (0 : Int) ≤ (m : Int) := Int.natCast_nonneg _
        have i1' : (m : Int) < (zs.length : Int) := by omega
        have i2' : (m : Int) + 1 < (zs.length : Int) := by omega
        have i3' : (0 : Int) ≤ (m : Int) + 1 := by omega
        have i4' : IntKind.i64.wrap ((m : Int) + 1) = (m : Int) + 1 := by simp [IntKind.wrap, IntKind.bits, IntKind.signed]; omega
        have i5' : ((m : Int) + 1).toNat = m + 1 := by omega
        go_wp2
        go_region_held3 (fun w' => w'.cell? ⟨b, off + m, none⟩ = some (.int .i64 x) ∧ w'.cell? ⟨b, off + (m + 1), none⟩ = some (.int .i64 y))
          (first
            | go_keep
            | (go_split_ands
               refine ⟨?_, ?_⟩
               · (rw [hgrow.cell_far _ (by simp; omega) (Ne.symm hne)]; assumption)
               · (rw [hgrow.cell_far _ (by simp; omega) (Ne.symm hne)]; assumption)))
          (first
            | (go_at_call_of 10 (Value.int .i64 x); refine (HP1.out _).mono ?_; rintro e w' ⟨r, r0, r1, rfl, rfl⟩; have q1 := wrap_small (1 + r) (by omega) (by omega))
            | (go_at_call_of 10 (Value.int .i64 y); refine (HP2.out _).mono ?_; rintro e w' ⟨s, s0, s1, rfl, rfl⟩; have q2 := wrap_small (1 + s) (by omega) (by omega))
            | ((refine step_append_lies _ (by rfl) _ _ _ (by rfl) w.heap.size 25 i0 _ 2 16 Try.underlying23 hi hz0 hz1 hz2 rfl (by omega) (.slice aa k cc) k (rcl rs) (by rfl) ((HOW.out.alloc _).drew) ⟨W3.heap.size, 0, none⟩ 1 1 [.int .i64 (1 + r), .int .i64 (1 + s)] (by rfl) (by rfl) (World.news_of_block (cs := #[.int .i64 (1 + r), .int .i64 (1 + s)]) (t := 25) (fr := (0, 0)) (heap_alloc_new W3 _)) (by simp [Value.oneCell']) (by omega) (by unfold maxLen; omega) (by omega) (by simp; omega) (W3.heap.size + 1) (by simp) ?_; intro gg cap1 w9 hown9 hgrow hat hlt9)))
        all_goals
          have HT9 : Hid ((rs ++ [(1 + r, 1 + s)]).length = k + 1 ∧ (rs ++ [(1 + r, 1 + s)]).all okR = true) := ⟨by simp [HT.out.1], by rw [List.all_append, HT.out.2]; simp [okR]; omega⟩
          have HO9 : Hid (w9.ownsRow w.heap.size 25 2 (.slice (some ⟨gg, 0, none⟩) (k + 1) cap1) (k + 1) (rcl (rs ++ [(1 + r, 1 + s)])) ∧ Below w.heap.size w w9) := ⟨by rw [rcl_next]; exact hown9, (bdn (HO.out.2.alloc hsz _) 1).grown hgrow (by simp; omega) (fun b e => (HOW.out.lt b e).1)⟩
          clear hown9 hgrow HO HOW hat
          go_wp2
          go_roundw
          case rel => exact ⟨k + 1, rs ++ [(1 + r, 1 + s)], by omega, by have := HM.out; go_num, HT9, HO9⟩
          case measure => have := HM.out; simp [intOf]; omega
      · clear HO
        go_wp2
        go_ret
        obtain ⟨v9, rs9, e9, f9⟩ := HE.out
        first | exact ⟨v9, rs9, e9, f9⟩ | exact ⟨v9, e9, rs9, f9⟩
    · clear HO
      go_wp2
      go_ret
      obtain ⟨v9, rs9, e9, f9⟩ := HE.out
      first | exact ⟨v9, rs9, e9, f9⟩ | exact ⟨v9, e9, rs9, f9⟩
end Go.Proofs.Ytikbfhhkkplpbaa
