/-
  slices.SortFunc (46) of a list of one.
-/
import Derived.Test.YthdhegmlknpllaaMks
namespace Go.Proofs.Ythdhegmlknpllaa
open Go.RowKit Go.Maps Go.MuLone

set_option maxRecDepth 100000 in
set_option maxHeartbeats 400000 in
theorem len64_one (w : World) : Calls Try.prog 113 #[.int .u64 1] w fun e w' => ∃ r : Int, e = .returned (.int .i64 r) ∧ w' = w := by
  go_enter Try.func113, Try.ntmps113
  go_wp2
  go_ret
  exact ⟨_, rfl, rfl⟩

set_option maxRecDepth 100000 in
set_option maxHeartbeats 400000 in
theorem len_one (w : World) : Calls Try.prog 81 #[.int .u64 1] w fun e w' => ∃ r : Int, e = .returned (.int .i64 r) ∧ w' = w := by
  have H := len64_one
  go_enter Try.func81, Try.ntmps81
  go_wp2_with (go_at_call 113; refine (H _).mono ?_; rintro e w' ⟨r, rfl, hw'⟩; have hw' := hw'.symm; subst hw')
  go_ret
  exact ⟨r, rfl, rfl⟩

set_option maxRecDepth 100000 in
set_option maxHeartbeats 400000 in
theorem ins_one (a : Option Addr) (c : Nat) (f : Value) (w : World) : Calls Try.prog 104 #[.slice a 1 c, .int .i64 0, .int .i64 1, f] w fun e w' => e = .returned (.tuple #[]) ∧ w' = w := by
  go_enter Try.func104, Try.ntmps104
  go_wp2
  refine wp_loop_rounds 1 ?_
  rw [rounds_succ]
  go_wp2
  go_end0
  exact ⟨rfl, rfl⟩

set_option maxRecDepth 100000 in
set_option maxHeartbeats 400000 in
theorem pdq_one (a : Option Addr) (c : Nat) (l : Int) (f : Value) (w : World) : Calls Try.prog 80 #[.slice a 1 c, .int .i64 0, .int .i64 1, .int .i64 l, f] w fun e w' => e = .returned (.tuple #[]) ∧ w' = w := by
  have H := ins_one a c f w
  go_enter Try.func80, Try.ntmps80
  go_wp2
  refine wp_loop_rounds 1 ?_
  rw [rounds_succ]
  go_wp2_with (go_at_call 104; refine H.mono ?_; rintro e w' ⟨rfl, hw'⟩; have hw' := hw'.symm; subst hw')
  exact bodyPost_ret (v := .tuple #[]) (results_none rfl _ _ _) rfl ⟨rfl, rfl⟩

set_option maxRecDepth 100000 in
set_option maxHeartbeats 400000 in
theorem sort_one (a : Option Addr) (c : Nat) (f : Value) (w : World) : Calls Try.prog 57 #[.slice a 1 c, f] w fun e w' => e = .returned (.tuple #[]) ∧ w' = w := by
  have H := fun l => pdq_one a c l f w
  have H1 := len_one w
  go_enter Try.func57, Try.ntmps57
  go_wp2_with (first
    | (go_at_call 81; refine H1.mono ?_; rintro e w' ⟨r, rfl, hw'⟩; have hw' := hw'.symm; subst hw')
    | (go_at_call 80; refine (H _).mono ?_; rintro e w' ⟨rfl, hw'⟩; have hw' := hw'.symm; subst hw'))
  go_end0
  exact ⟨rfl, rfl⟩
end Go.Proofs.Ythdhegmlknpllaa
