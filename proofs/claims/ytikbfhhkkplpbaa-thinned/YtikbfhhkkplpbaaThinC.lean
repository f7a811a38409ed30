/-
  The walk of tether/tetherkeep.lives (13).
-/
import Derived.Test.YtikbfhhkkplpbaaLaw
namespace Go.Proofs.Ytikbfhhkkplpbaa
open Go.RowKit Pl

theorem lives_keep (W : World) (g1 g2 : Nat) (h1 : RowI W (some ⟨g1, 0, none⟩) [100, 99, 80, 40] 4) (h2 : RowR W (some ⟨g2, 0, none⟩) [(2, 20)] 1) :
    Calls Try.prog 6 #[.int .i64 100, .slice (some ⟨g1, 0, none⟩) 4 4, .int .i64 0, .slice (some ⟨g2, 0, none⟩) 1 1] W fun e w' => ∃ g, e = .returned (.tuple #[.slice (some ⟨g, 0, none⟩) 4 4, .int .i64 0]) ∧
      w'.cell? ⟨g, 0, none⟩ = some (.bool true) ∧ w'.cell? ⟨g, 1, none⟩ = some (.bool false) ∧ w'.cell? ⟨g, 2, none⟩ = some (.bool true) ∧ w'.cell? ⟨g, 3, none⟩ = some (.bool false) ∧ Below W.heap.size W w' := by
  refine (keep_ok 100 0 _ _ [100, 99, 80, 40] [(2, 20)] 4 1 W h1 h2 (by decide) (by decide) (by decide) (by decide)).mono fun e w' ⟨g, he, ho, hb⟩ => ⟨g, he, ?_, ?_, ?_, ?_, hb⟩
  · exact (ho.cellAt 0 (by decide)).trans rfl
  · exact (ho.cellAt 1 (by decide)).trans rfl
  · exact (ho.cellAt 2 (by decide)).trans rfl
  · exact (ho.cellAt 3 (by decide)).trans rfl

theorem rowI_four (W : World) (g : Nat) (a b c d : Int) (h0 : W.cell? ⟨g, 0, none⟩ = some (.int .i64 a)) (h1 : W.cell? ⟨g, 1, none⟩ = some (.int .i64 b)) (h2 : W.cell? ⟨g, 2, none⟩ = some (.int .i64 c)) (h3 : W.cell? ⟨g, 3, none⟩ = some (.int .i64 d)) : RowI W (some ⟨g, 0, none⟩) [a, b, c, d] 4 :=
  ⟨by simp, fun _ => ⟨g, 0, rfl, fun i hi => by
    rw [Nat.zero_add]
    rcases i with _ | _ | _ | _ | i
    · exact h0
    · exact h1
    · exact h2
    · exact h3
    · simp at hi; omega⟩⟩
theorem rowR_one (W : World) (g : Nat) (a b : Int) (h0 : W.cell? ⟨g, 0, none⟩ = some (.int .i64 a)) (h1 : W.cell? ⟨g, 1, none⟩ = some (.int .i64 b)) : RowR W (some ⟨g, 0, none⟩) [(a, b)] 1 :=
  ⟨by simp, fun _ => ⟨g, 0, rfl, fun i hi => by
    obtain rfl : i = 0 := by simpa using hi
    exact ⟨h0, h1⟩⟩⟩

set_option maxHeartbeats 1000000 in
theorem lives_any (w : World) : Calls Try.prog 13 #[] w fun e w' => e = .returned (.bool true) ∧ Below w.heap.size w w' := by
  go_enter Try.func13, Try.ntmps13
  go_wp2_with (go_at_call 6; refine (lives_keep _ w.heap.size (w.heap.size + 1) (rowI_four _ _ _ _ _ _ (by simp) (by simp) (by simp) (by simp)) (rowR_one _ _ _ _ (by simp) (by simp))).mono ?_; rintro e w' ⟨g, rfl, c0, c1, c2, c3, hb⟩)
  go_ret
  exact ⟨rfl, (((Below.refl _ w).alloc (Nat.le_refl _) _).alloc (by simp) _).trans (hb.mono (by simp; omega))⟩
end Go.Proofs.Ytikbfhhkkplpbaa
