/-
  The walks of the small functions: tether/tetherref.newer (14), cmp.Compare (24), cmp.Or (23), tether/grid.timesMayBe (16), rulesMayBe (17).
-/
import Derived.Test.YtikbfhhkkplpbaaRows
import Derived.Test.YtikbfhhkkplpbaaPlain
import Derived.WalkKit
import Derived.WalkSpells
import Derived.WalkLawsBesides
import Derived.Deep.QuietTactic
import Derived.BigQuiet
import Derived.Deep.LoopGhost
namespace Go.Proofs.Ytikbfhhkkplpbaa
open Go.RowKit Pl

/-- A slice of numbers: what its cells hold. -/
def RowI (w : World) (ao : Option Addr) (zs : List Int) (cap : Nat) : Prop :=
  zs.length ≤ cap ∧ (0 < zs.length → ∃ b off, ao = some ⟨b, off, none⟩ ∧ ∀ i, i < zs.length → w.cell? ⟨b, off + i, none⟩ = some (.int .i64 (tm zs i)))
/-- A slice of rules: what its cells hold. -/
def RowR (w : World) (ao : Option Addr) (rs : List (Int × Int)) (cap : Nat) : Prop :=
  rs.length ≤ cap ∧ (0 < rs.length → ∃ b off, ao = some ⟨b, off, none⟩ ∧ ∀ i (h : i < rs.length), w.cell? ⟨b, off + i * 2, none⟩ = some (.int .i64 rs[i].1) ∧ w.cell? ⟨b, off + i * 2 + 1, none⟩ = some (.int .i64 rs[i].2))

theorem RowI.below {w w' : World} {ao : Option Addr} {zs : List Int} {cap : Nat} (h : RowI w ao zs cap) (hb : Below w.heap.size w w') : RowI w' ao zs cap := by
  refine ⟨h.1, fun h0 => ?_⟩
  obtain ⟨b, off, e, hc⟩ := h.2 h0
  exact ⟨b, off, e, fun i hi => (hb.cell (p := ⟨b, off + i, none⟩) (World.block_lt_of_cell? _ _ (hc i hi))).trans (hc i hi)⟩
theorem RowR.below {w w' : World} {ao : Option Addr} {rs : List (Int × Int)} {cap : Nat} (h : RowR w ao rs cap) (hb : Below w.heap.size w w') : RowR w' ao rs cap := by
  refine ⟨h.1, fun h0 => ?_⟩
  obtain ⟨b, off, e, hc⟩ := h.2 h0
  exact ⟨b, off, e, fun i hi => ⟨(hb.cell (p := ⟨b, off + i * 2, none⟩) (World.block_lt_of_cell? _ _ (hc i hi).1)).trans (hc i hi).1, (hb.cell (p := ⟨b, off + i * 2 + 1, none⟩) (World.block_lt_of_cell? _ _ (hc i hi).2)).trans (hc i hi).2⟩⟩
theorem bdn {B : Nat} {a w : World} (h : Below B a w) (n : Nat) : Below B a (w.drewN n) := ⟨h.os, h.tape, h.output, h.size, h.block⟩

theorem ret_bool {a b : Bool} (h : a = b) : Ending.returned (.bool a) = .returned (.bool b) := by rw [h]

set_option maxHeartbeats 400000 in
theorem newer_any (ao : Option Addr) (zs : List Int) (cap i k : Nat) (w : World) (h : RowI w ao zs cap) (hi : i < zs.length) (hk : k < zs.length) (hn : zs.length ≤ 17592186044416) :
    Calls Try.prog 14 #[.slice ao zs.length cap, .int .i64 i, .int .i64 k] w fun e w' => e = .returned (.bool (nw zs i k)) ∧ ∃ q, w' = w.drewN q := by
  obtain ⟨b, off, rfl, hc⟩ := h.2 (by omega)
  have d1 : ∀ m, (w.drewN m).cell? ⟨b, off + i, none⟩ = some (.int .i64 (tm zs i)) := fun m => hc i hi
  have d2 : ∀ m, (w.drewN m).cell? ⟨b, off + k, none⟩ = some (.int .i64 (tm zs k)) := fun m => hc k hk
  obtain ⟨x, hx⟩ : ∃ x, tm zs i = x := ⟨_, rfl⟩
  obtain ⟨y, hy⟩ : ∃ y, tm zs k = y := ⟨_, rfl⟩
  have hnw : nw zs i k = (decide (y < x) || (decide (x = y) && decide (k < i))) := by rw [nw, hx, hy]
  rw [hnw]
  rw [hx] at d1
  rw [hy] at d2
  clear hc h hx hy hnw
  by_cases h1 : y < x
  · rw [show (decide (y < x) || (decide (x = y) && decide (k < i))) = true by simp [h1]]
    have t1 : decide (y < x) = true := by simpa using h1
    go_enter Try.func14, Try.ntmps14
    go_wp2
    go_quiet (fail)
    go_wp2
    go_ret
    exact ⟨rfl, nq, rfl⟩
  · have t1 : decide (y < x) = false := by simpa using h1
    by_cases h2 : x = y
    · subst h2
      rw [show (decide (x < x) || (decide (x = x) && decide (k < i))) = decide (k < i) by simp]
      have t2 : (x == x) = true := by simp
      go_enter Try.func14, Try.ntmps14
      go_wp2
      go_quiet (fail)
      go_wp2
      go_ret
      exact ⟨ret_bool (by simp), nq, rfl⟩
    · rw [show (decide (y < x) || (decide (x = y) && decide (k < i))) = false by simp [h1, h2]]
      have t2 : (x == y) = false := by simpa using h2
      go_enter Try.func14, Try.ntmps14
      go_wp2
      go_quiet (fail)
      go_wp2
      go_ret
      exact ⟨rfl, nq, rfl⟩

def cmpI (x y : Int) : Int := if x < y then -1 else if y < x then 1 else 0

set_option maxHeartbeats 400000 in
theorem compare_any (x y : Int) (w : World) : Calls Try.prog 24 #[.int .i64 x, .int .i64 y] w fun e w' => e = .returned (.int .i64 (cmpI x y)) ∧ w' = w := by
  by_cases h1 : x < y
  · rw [show cmpI x y = -1 by simp [cmpI, h1]]
    go_enter Try.func24, Try.ntmps24
    go_wp2
    go_ret
    exact ⟨rfl, rfl⟩
  · by_cases h2 : y < x
    · rw [show cmpI x y = 1 by simp [cmpI, h1, h2]]
      go_enter Try.func24, Try.ntmps24
      go_wp2
      go_ret
      exact ⟨rfl, rfl⟩
    · rw [show cmpI x y = 0 by simp [cmpI, h1, h2]]
      go_enter Try.func24, Try.ntmps24
      go_wp2
      go_ret
      exact ⟨rfl, rfl⟩

def orI (x y : Int) : Int := if x = 0 then y else x

set_option maxHeartbeats 400000 in
theorem or_any (x y : Int) (b : Nat) (w : World) (c0 : w.cell? ⟨b, 0, none⟩ = some (.int .i64 x)) (c1 : w.cell? ⟨b, 1, none⟩ = some (.int .i64 y)) :
    Calls Try.prog 23 #[.slice (some ⟨b, 0, none⟩) 2 2] w fun e w' => e = .returned (.int .i64 (orI x y)) ∧ w' = w := by
  unfold orI
  by_cases hx : x = 0
  · subst hx
    rw [if_pos rfl]
    by_cases hy : y = 0
    · subst hy
      go_enter Try.func23, Try.ntmps23
      go_wp2
      refine wp_loop_rounds 3 ?_
      rw [rounds_succ]
      go_wp2
      rw [rounds_succ]
      go_wp2
      rw [rounds_succ]
      go_wp2
      go_ret
      exact ⟨rfl, rfl⟩
    · have hyb : (y != 0) = true := by simpa using hy
      go_enter Try.func23, Try.ntmps23
      go_wp2
      refine wp_loop_rounds 3 ?_
      rw [rounds_succ]
      go_wp2
      rw [rounds_succ]
      go_wp2
      go_ret
      exact ⟨rfl, rfl⟩
  · rw [if_neg hx]
    have hxb : (x != 0) = true := by simpa using hx
    go_enter Try.func23, Try.ntmps23
    go_wp2
    refine wp_loop_rounds 3 ?_
    rw [rounds_succ]
    go_wp2
    go_ret
    exact ⟨rfl, rfl⟩
end Go.Proofs.Ytikbfhhkkplpbaa
