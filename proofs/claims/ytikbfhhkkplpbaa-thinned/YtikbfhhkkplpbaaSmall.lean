/-
  The walks of tether/tetherlaw.sameBools (7), sameRules (9), turns (8).
-/
import Derived.Test.YtikbfhhkkplpbaaRefBad
import Derived.ArgAppend
namespace Go.Proofs.Ytikbfhhkkplpbaa
open Go.RowKit Pl

theorem own_shape {w : World} {base : Nat} {e : TypeId} {size : Nat} {v : Value} {n : Nat} {xs : List Value} (h : w.ownsRow base e size v n xs) : ∃ ao cap, v = .slice ao n cap := by
  rcases h.2 with ⟨rfl, rfl⟩ | ⟨g, cap, _, rfl, _⟩
  · exact ⟨none, 0, rfl⟩
  · exact ⟨_, cap, rfl⟩
theorem own_at {w : World} {base : Nat} {e : TypeId} {size : Nat} {v : Value} {n : Nat} {xs : List Value} (h : w.ownsRow base e size v n xs) (hn : 0 < n) : ∃ g cap, v = .slice (some ⟨g, 0, none⟩) n cap ∧ n ≤ cap ∧ ∀ j u, xs[j]? = some u → w.cell? ⟨g, j, none⟩ = some u := by
  rcases h.2 with ⟨rfl, rfl⟩ | ⟨g, cap, cur, rfl, hb, hg, hc, _⟩
  · omega
  · refine ⟨g, cap, rfl, hc, fun j u hj => ?_⟩
    have := h.cells (g := g) rfl j u hj
    have hadd : (⟨g, 0, none⟩ : Addr).add j = ⟨g, j, none⟩ := by unfold Addr.add; split <;> simp_all
    rwa [hadd] at this

/-- A list of bools as cells. -/
def bc (bl : List Bool) : List Value := bl.map Value.bool
theorem bc_get (bl : List Bool) (k : Nat) (h : k < bl.length) : (bc bl)[k]? = some (.bool bl[k]) := by simp [bc, h]

set_option maxHeartbeats 1000000 in
theorem sameb_any (x y : Value) (bl : List Bool) (b1 b2 : Nat) (w : World) (hx : w.ownsRow b1 4 1 x bl.length (bc bl)) (hy : w.ownsRow b2 4 1 y bl.length (bc bl)) (hl : bl.length ≤ 17592186044416) :
    Calls Try.prog 7 #[x, y] w fun e w' => e = .returned (.bool true) ∧ ∃ n, w' = w.drewN n := by
  by_cases h0 : bl.length = 0
  · obtain ⟨a1, c1, rfl⟩ := own_shape hx
    obtain ⟨a2, c2, rfl⟩ := own_shape hy
    rw [h0]
    clear hx hy
    go_enter Try.func7, Try.ntmps7
    go_wp2
    refine wp_loop_rounds 1 ?_
    rw [rounds_succ]
    go_wp2
    go_ret
    exact ⟨rfl, 0, rfl⟩
  · obtain ⟨g1, c1, rfl, hc1, hx'⟩ := own_at hx (by omega)
    obtain ⟨g2, c2, rfl, hc2, hy'⟩ := own_at hy (by omega)
    clear hx hy
    go_enter Try.func7, Try.ntmps7
    go_wp2
    go_loopw [5] (fun i wr => ∃ (k n : Nat), k ≤ bl.length ∧ i = .int .i64 k ∧ wr = w.drewN n) (fun i _ => bl.length - (intOf i).toNat)
    case atStart => exact ⟨0, 0, Nat.zero_le _, rfl, rfl⟩
    case round =>
      obtain ⟨k, n, hk, rfl, rfl⟩ := hrel
      by_cases hlt : k < bl.length
      · have hg := bc_get bl k hlt
        have d1 : ∀ m, (w.drewN m).cell? ⟨g1, k, none⟩ = some (.bool bl[k]) := fun m => hx' _ _ hg
        have d3 : ∀ m, (w.drewN m).cell? ⟨g2, k, none⟩ = some (.bool bl[k]) := fun m => hy' _ _ hg
        have HX : Hid _ := hx'
        have HY : Hid _ := hy'
        clear hx' hy' hg
        go_wp2
        go_quiet (fail)
        go_wp2
        go_roundw
        case rel => exact ⟨k + 1, n + nq, by omega, by go_num, rfl⟩
        case measure => simp [intOf]; omega
      · go_wp2
        go_ret
        exact ⟨rfl, n, rfl⟩

set_option maxHeartbeats 1000000 in
theorem samer_any (a1 a2 : Option Addr) (c1 c2 : Nat) (rs : List (Int × Int)) (w : World) (hx : RowR w a1 rs c1) (hy : RowR w a2 rs c2) (hl : rs.length ≤ 17592186044416) :
    Calls Try.prog 9 #[.slice a1 rs.length c1, .slice a2 rs.length c2] w fun e w' => e = .returned (.bool true) ∧ ∃ n, w' = w.drewN n := by
  by_cases h0 : rs.length = 0
  · rw [h0]
    clear hx hy
    go_enter Try.func9, Try.ntmps9
    go_wp2
    refine wp_loop_rounds 1 ?_
    rw [rounds_succ]
    go_wp2
    go_ret
    exact ⟨rfl, 0, rfl⟩
  · obtain ⟨g1, o1, rfl, hx'⟩ := hx.2 (by omega)
    obtain ⟨g2, o2, rfl, hy'⟩ := hy.2 (by omega)
    have l1 := hx.1
    have l2 := hy.1
    have HX : Hid _ := hx'
    have HY : Hid _ := hy'
    clear hx hy hx' hy'
    go_enter Try.func9, Try.ntmps9
    go_wp2
    go_loopw [5] (fun i wr => ∃ (k n : Nat), k ≤ rs.length ∧ i = .int .i64 k ∧ wr = w.drewN n) (fun i _ => rs.length - (intOf i).toNat)
    case atStart => exact ⟨0, 0, Nat.zero_le _, rfl, rfl⟩
    case round =>
      obtain ⟨k, n, hk, rfl, rfl⟩ := hrel
      by_cases hlt : k < rs.length
      · have d1 : ∀ m, (w.drewN m).cell? ⟨g1, o1 + k * 2, none⟩ = some (.int .i64 rs[k].1) := fun m => (HX.out k hlt).1
        have d2 : ∀ m, (w.drewN m).cell? ⟨g1, o1 + k * 2 + 1, none⟩ = some (.int .i64 rs[k].2) := fun m => (HX.out k hlt).2
        have d3 : ∀ m, (w.drewN m).cell? ⟨g2, o2 + k * 2, none⟩ = some (.int .i64 rs[k].1) := fun m => (HY.out k hlt).1
        have d4 : ∀ m, (w.drewN m).cell? ⟨g2, o2 + k * 2 + 1, none⟩ = some (.int .i64 rs[k].2) := fun m => (HY.out k hlt).2
        go_wp2
        go_quiet (fail)
        go_wp2
        go_roundw
        case rel => exact ⟨k + 1, n + nq, by omega, by go_num, rfl⟩
        case measure => simp [intOf]; omega
      · go_wp2
        go_ret
        exact ⟨rfl, n, rfl⟩
end Go.Proofs.Ytikbfhhkkplpbaa
