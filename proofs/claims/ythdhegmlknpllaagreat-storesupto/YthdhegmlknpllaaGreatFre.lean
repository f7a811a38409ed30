/-
  tetherlaw's fresh (5).
-/
import Derived.Test.YthdhegmlknpllaaGreatUnm
import Derived.Test.YthdhegmlknpllaaGreatErr
namespace Go.Proofs.YthdhegmlknpllaaGreat
open Go.RowKit Go.Maps Go.MuLone

/-- A store as New leaves it. -/
def newS (id : Int) (n vb mb : Nat) (lv : Value) : Sto := (Sto.fresh id n vb mb).noted 78 (ntext id n) lv

set_option maxRecDepth 100000 in
set_option maxHeartbeats 800000 in
theorem fresh_ok (id : Int) (n : Nat) (w : World) (h1 : 1 ≤ id ∧ id ≤ 999) (h2 : 1 ≤ n ∧ n ≤ 16) :
    Calls Tryz.prog 7 #[.int .i64 id, .int .i64 n] w fun e w' => ∃ db b vb mb lv rb, e = .returned (.tuple #[.pointer (some ⟨db, 0, none⟩), .bool true]) ∧ w'.heap[db]? = some (.cells #[.pointer (some ⟨b, 0, none⟩), .pointer (some ⟨rb, 0, none⟩), .slice none 0 0] 53 (0, 0)) ∧ w.heap.size ≤ db ∧ Rep w.heap.size w' b 0 (newS id n vb mb lv) ∧ RRep w.heap.size w' rb (RSto.fresh id n 16) ∧ (∀ k ∈ foot b (newS id n vb mb lv), k ∉ rfoot rb (RSto.fresh id n 16)) ∧ Fr [] w w' := by
  have HN := new_ok id n w h1 h2
  have HR : Hid (∀ W, Calls Tryz.prog 13 #[.int .i64 id, .int .i64 n] W _) := fun W => rnew_ok id n W h1 h2
  clear h1 h2
  go_enter Tryz.func7, Tryz.ntmps7
  go_wp2_with (first
    | (go_at_call 12; refine HN.mono ?_; rintro e w1 ⟨b, vb, mb, lv, rfl, r1, f1⟩
       have H1 : Hid (Rep w.heap.size w1 b 0 (newS id n vb mb lv) ∧ Fr [] w w1) := ⟨r1, f1⟩
       clear r1 f1)
    | (go_at_call 13; refine (HR.out _).mono ?_; rintro e w2 ⟨rb, rfl, r2, f2⟩
       have H2 : Hid (RRep w1.heap.size w2 rb (RSto.fresh id n 16) ∧ Fr [] w1 w2) := ⟨r2, f2⟩
       clear r2 f2))
  go_ret2
  refine ⟨w2.heap.size, b, vb, mb, lv, rb, by first | rfl | simp, heap_alloc_new w2 _, ?_, ?_, ?_, ?_, ?_⟩
  · have := H1.out.2.size
    have := H2.out.2.size
    omega
  · exact (H1.out.1.kept0 H2.out.2).kept0 ((Fr.refl _ _).alloc _)
  · have r := H2.out.1.kept0 ((Fr.refl _ _).alloc (.cells #[.pointer (some ⟨b, 0, none⟩), .pointer (some ⟨rb, 0, none⟩), .slice none 0 0] 53))
    exact ⟨r.blk, r.d16, r.b16, r.wf, World.ownsRow_nil _ _ _ _, World.ownsRow_nil _ _ _ _, Nat.le_trans H1.out.2.size r.hb⟩
  · intro k hk hm
    have h3 := (H1.out.1.lt k hk).2
    have h4 := (H2.out.1.lt k hm).1
    omega
  · exact (H1.out.2.trans H2.out.2 (by simp)).alloc _

set_option maxHeartbeats 800000 in
theorem fresh_bad (id n : Int) (w : World) (h : ((decide (id < 1) || decide (999 < id)) || decide (n < 1)) = true ∨ 16 < n) :
    Calls Tryz.prog 7 #[.int .i64 id, .int .i64 n] w fun e w' => e = .returned (.tuple #[.pointer none, .bool true]) ∧ w' = w := by
  have HN := new_bad id n w h
  have HR := rnew_bad id n w h
  clear h
  go_enter Tryz.func7, Tryz.ntmps7
  go_wp2_with (first
    | (go_at_call 12; refine HN.mono ?_; rintro e w' ⟨rfl, hw'⟩; have hw' := hw'.symm; subst hw')
    | (go_at_call 13; refine HR.mono ?_; rintro e w' ⟨rfl, hw'⟩; have hw' := hw'.symm; subst hw'))
  go_ret2
  exact ⟨rfl, rfl⟩
end Go.Proofs.YthdhegmlknpllaaGreat
