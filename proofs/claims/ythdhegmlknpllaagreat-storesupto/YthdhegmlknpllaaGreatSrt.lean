/-
  slices.SortFunc (NOTYPE46) of a list of one.
-/
import Derived.Test.YthdhegmlknpllaaGreatMks
namespace Go.Proofs.YthdhegmlknpllaaGreat
open Go.RowKit Go.Maps Go.MuLone

set_option maxRecDepth 100000 in
set_option maxHeartbeats 400000 in
theorem len64_one (w : World) : Calls Tryz.prog 130 #[.int .u64 1] w fun e w' => ∃ r : Int, e = .returned (.int .i64 r) ∧ w' = w := by
  go_enter Tryz.func130, Tryz.ntmps130
  go_wp2
  go_ret
  exact ⟨_, rfl, rfl⟩

set_option maxRecDepth 100000 in
set_option maxHeartbeats 400000 in
theorem len_one (w : World) : Calls Tryz.prog 106 #[.int .u64 1] w fun e w' => ∃ r : Int, e = .returned (.int .i64 r) ∧ w' = w := by
  have H := len64_one
  go_enter Tryz.func106, Tryz.ntmps106
  go_wp2_with (go_at_call 130; refine (H _).mono ?_; rintro e w' ⟨r, rfl, hw'⟩; have hw' := hw'.symm; subst hw')
  go_ret
  exact ⟨r, rfl, rfl⟩

set_option maxRecDepth 100000 in
set_option maxHeartbeats 400000 in
theorem ins_one (a : Option Addr) (c : Nat) (f : Value) (w : World) : Calls Tryz.prog 121 #[.slice a 1 c, .int .i64 0, .int .i64 1, f] w fun e w' => e = .returned (.tuple #[]) ∧ w' = w := by
  go_enter Tryz.func121, Tryz.ntmps121
  go_wp2
  refine wp_loop_rounds 1 ?_
  rw [rounds_succ]
  go_wp2
  go_end0
  exact ⟨rfl, rfl⟩

set_option maxRecDepth 100000 in
set_option maxHeartbeats 400000 in
theorem pdq_one (a : Option Addr) (c : Nat) (l : Int) (f : Value) (w : World) : Calls Tryz.prog 105 #[.slice a 1 c, .int .i64 0, .int .i64 1, .int .i64 l, f] w fun e w' => e = .returned (.tuple #[]) ∧ w' = w := by
  have H := ins_one a c f w
  go_enter Tryz.func105, Tryz.ntmps105
  go_wp2
  refine wp_loop_rounds 1 ?_
  rw [rounds_succ]
  go_wp2_with (go_at_call 121; refine H.mono ?_; rintro e w' ⟨rfl, hw'⟩; have hw' := hw'.symm; subst hw')
  exact bodyPost_ret (v := .tuple #[]) (results_none rfl _ _ _) rfl ⟨rfl, rfl⟩

set_option maxRecDepth 100000 in
set_option maxHeartbeats 400000 in
theorem sort_one (a : Option Addr) (c : Nat) (f : Value) (w : World) : Calls Tryz.prog 70 #[.slice a 1 c, f] w fun e w' => e = .returned (.tuple #[]) ∧ w' = w := by
  have H := fun l => pdq_one a c l f w
  have H1 := len_one w
  go_enter Tryz.func70, Tryz.ntmps70
  go_wp2_with (first
    | (go_at_call 106; refine H1.mono ?_; rintro e w' ⟨r, rfl, hw'⟩; have hw' := hw'.symm; subst hw')
    | (go_at_call 105; refine (H _).mono ?_; rintro e w' ⟨rfl, hw'⟩; have hw' := hw'.symm; subst hw'))
  go_end0
  exact ⟨rfl, rfl⟩
end Go.Proofs.YthdhegmlknpllaaGreat
