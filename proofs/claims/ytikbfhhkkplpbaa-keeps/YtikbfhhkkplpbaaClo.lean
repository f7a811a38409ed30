/-
  The walk of the comparison, tether/grid.newestFirst$1 (22).
-/
import Derived.Test.YtikbfhhkkplpbaaBase
import Derived.Test.YtikbfhhkkplpbaaSort
import Derived.Deep.RegionHeld3
namespace Go.Proofs.Ytikbfhhkkplpbaa
open Go.RowKit Pl Go.Sort

set_option maxHeartbeats 400000 in
theorem clo_any (bx b off n cap x y : Nat) (tx ty : Int) (w : World) (hbox : w.cell? ⟨bx, 0, none⟩ = some (.slice (some ⟨b, off, none⟩) n cap)) (hx : x < n) (hy : y < n) (_hn : n ≤ cap)
    (cx : w.cell? ⟨b, off + x, none⟩ = some (.int .i64 tx)) (cy : w.cell? ⟨b, off + y, none⟩ = some (.int .i64 ty)) :
    Calls Try.prog 22 #[.int .i64 x, .int .i64 y, .pointer (some ⟨bx, 0, none⟩)] w fun e w' => e = .returned (.int .i64 (orI (cmpI ty tx) (cmpI y x))) ∧ ∃ q, w' = (w.alloc (.cells #[.int .i64 (cmpI ty tx), .int .i64 (cmpI y x)] 3)).drewN q := by
  have lb := World.block_lt_of_cell? _ _ hbox
  have lx := World.block_lt_of_cell? _ _ cx
  have H1 : ∀ w, _ := fun w => compare_any ty tx w
  have H2 : ∀ w, _ := fun w => compare_any y x w
  obtain ⟨p, hp⟩ : ∃ p, cmpI ty tx = p := ⟨_, rfl⟩
  obtain ⟨q, hq⟩ : ∃ q, cmpI y x = q := ⟨_, rfl⟩
  rw [hp] at H1
  rw [hq] at H2
  rw [hp, hq]
  clear hp hq
  have HH1 : Hid _ := H1
  have HH2 : Hid _ := H2
  clear H1 H2
  go_enter Try.func22, Try.ntmps22
  go_wp2
  go_region_held3 (fun w' => w'.cell? ⟨bx, 0, none⟩ = some (.slice (some ⟨b, off, none⟩) n cap) ∧ w'.cell? ⟨b, off + x, none⟩ = some (.int .i64 tx) ∧ w'.cell? ⟨b, off + y, none⟩ = some (.int .i64 ty)) (go_keep)
    (first | (go_at_call_of 24 (Value.int .i64 ty); refine (HH1.out _).mono ?_; rintro e w' ⟨rfl, rfl⟩) | (go_at_call_of 24 (Value.int .i64 (y : Int)); refine (HH2.out _).mono ?_; rintro e w' ⟨rfl, rfl⟩) | (go_at_call 23; refine (or_any p q _ _ (by simp) (by simp)).mono ?_; rintro e w' ⟨rfl, rfl⟩))
  all_goals go_wp2
  all_goals go_ret
  all_goals exact ⟨rfl, 1, rfl⟩
end Go.Proofs.Ytikbfhhkkplpbaa
