import Derived.Test.YthdhegmlknpllabGreatDoorM51
import Derived.Test.YthdhegmlknpllabGreatDoorM52
/-
  The walk of tetherkeep's Based (3).
-/
namespace Go.Proofs.YthdhegmlknpllabGreatDoor
open Go.RowKit Go.Maps Go.MuLone

set_option maxRecDepth 100000 in
set_option maxHeartbeats 1600000 in
theorem basedLaw_any (w : World) (raw peers every wait last : Int) (ao : Option Addr) (zs : List Int) (cap : Nat) (h1 : In64 raw) (h2 : In64 peers) (h3 : In64 every) (h4 : In64 wait) (h5 : In64 last) (hr : RowB w.heap.size w ao zs cap) (hz : Bnd zs) :
    Calls Tryz.prog 3 #[.int .i64 raw, .int .i64 peers, .int .i64 every, .int .i64 wait, .int .i64 last, .slice ao zs.length cap] w fun e w' => e = .returned (.bool true) ∧ Below w.heap.size w w' := by
  have HS : Hid (∀ W, W = w → Calls Tryz.prog 6 #[.int .i64 raw, .int .i64 peers, .int .i64 every, .int .i64 wait, .int .i64 last] W fun e w' => ∃ (N : NC) (x : PS), e = .returned (.pointer (some ⟨N.nb, 0, none⟩)) ∧ Net w w' N x ∧ x.q ≤ 10 ∧ x.ti = 0 ∧ x.way = [] ∧ x.im = [] ∧ (∀ p ∈ x.ps, p = Pe.zero) ∧ N.c.mo ≤ 48) := fun W hW => by subst hW; exact start_any W raw peers every wait last h1 h2 h3 h4 h5
  have HB : Hid (RowB w.heap.size w ao zs cap ∧ Bnd zs) := ⟨hr, hz⟩
  clear h1 h2 h3 h4 h5 hr hz
  go_enter Tryz.func3, Tryz.ntmps3
  go_wp2_with (first
    | (go_at_call 6; refine (HS.out _ rfl).mono ?_; rintro e w1 ⟨N, x, rfl, n1, q1, t1, _, _, _, mo1⟩; have H1 : Hid (Net w w1 N x ∧ x.q ≤ 10 ∧ x.ti = 0 ∧ N.c.mo ≤ 48) := ⟨n1, q1, t1, mo1⟩; clear n1 q1 t1 mo1)
    | (go_at_call 7; refine (lossy_any w N x ao zs cap w1 H1.out.1 HB.out.1 HB.out.2 H1.out.2.1 H1.out.2.2.1).mono ?_; rintro e w2 ⟨rfl, x2, n2, q2, t2⟩; have HZ : Hid (Below w.heap.size w w2) := n2.be; clear n2 q2 t2))
  go_ret
  exact ⟨rfl, HZ.out⟩
end Go.Proofs.YthdhegmlknpllabGreatDoor
