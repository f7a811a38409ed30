/-
  The walk of tether/tetherref.Keep (5) where the numbers may not be.
-/
import Derived.Test.YtikbfhhkkplpbaaRef
namespace Go.Proofs.Ytikbfhhkkplpbaa
open Go.RowKit Pl

theorem own_below {w w' : World} {base : Nat} {e : TypeId} {size : Nat} {v : Value} {n : Nat} {xs : List Value} (h : w.ownsRow base e size v n xs) (hb : Below w.heap.size w w') : w'.ownsRow base e size v n xs :=
  h.kept (row := none) ⟨hb.os, hb.tape, hb.output, hb.size, fun k hk _ => hb.block k hk⟩ (by cases hv : v.ownBlock <;> simp)

def cnt (zs : List Int) (k j : Nat) : Nat := ((List.range j).filter fun i => nw zs i k).length
theorem cnt_next (zs : List Int) (k j : Nat) : cnt zs k (j + 1) = cnt zs k j + if nw zs j k = true then 1 else 0 := by
  unfold cnt
  rw [List.range_succ, List.filter_append, List.length_append, List.filter_cons]
  split <;> simp
theorem cnt_le (zs : List Int) (k j : Nat) : cnt zs k j ≤ j := by
  have := List.length_filter_le (fun i => nw zs i k) (List.range j)
  simpa [cnt] using this

/-- The first marks that the reference lays. -/
def krk (now : Int) (zs : List Int) (last : Int) (rs : List (Int × Int)) (k : Nat) : List Value := (List.range k).map fun k => .bool (keepR now zs last rs k)
theorem krk_next (now : Int) (zs : List Int) (last : Int) (rs : List (Int × Int)) (k : Nat) : krk now zs last rs (k + 1) = krk now zs last rs k ++ [.bool (keepR now zs last rs k)] := by
  simp [krk, List.range_succ]

def b0 (now : Int) (last : Int) (m : Nat) : Bool := decide (0 ≤ now) && decide (now ≤ 1073741824) && decide (0 ≤ last) && decide (m ≤ 4)
theorem okA_b0 (now : Int) (zs : List Int) (last : Int) (rs : List (Int × Int)) : okA now zs last rs = (b0 now last rs.length && zs.all okT && rs.all okR) := by
  unfold okA b0 okRs okT
  cases decide (0 ≤ now) <;> cases decide (now ≤ 1073741824) <;> cases decide (0 ≤ last) <;> cases decide (rs.length ≤ 4) <;> simp

theorem cells_one (w : World) (a : Value) (T : TypeId) : ∀ j u, [a][j]? = some u → (w.alloc (.cells #[a] T)).cell? ((⟨w.heap.size, 0, none⟩ : Addr).add j) = some u := by
  intro j u hj
  match j, hj with
  | 0, hj => simp at hj; subst hj; simp [Addr.add]
theorem bool_one (b : Bool) : ∀ u ∈ [Value.bool b], u.oneCell' = true := by
  intro u hu; simp at hu; subst hu; rfl

set_option maxHeartbeats 1000000 in
theorem refkeep_b0 (now last : Int) (a1 a3 : Option Addr) (zs : List Int) (rs : List (Int × Int)) (c1 c3 : Nat) (w : World) (hz : zs.length ≤ 17592186044416) (hr : rs.length ≤ 17592186044416) (hb : b0 now last rs.length = false) :
    Calls Try.prog 5 #[.int .i64 now, .slice a1 zs.length c1, .int .i64 last, .slice a3 rs.length c3] w fun e w' => e = .returned (.tuple #[.slice none 0 0, .int .i64 1]) ∧ w' = w := by
  have hc : now < 0 ∨ (0 ≤ now ∧ 1073741824 < now) ∨ (0 ≤ now ∧ now ≤ 1073741824 ∧ last < 0) ∨ (0 ≤ now ∧ now ≤ 1073741824 ∧ 0 ≤ last ∧ (4 : Int) < (rs.length : Int)) := by
    simp only [b0, Bool.and_eq_false_iff, decide_eq_false_iff_not] at hb
    omega
  clear hb
  rcases hc with k1 | ⟨k1, k2⟩ | ⟨k1, k2, k3⟩ | ⟨k1, k2, k3, k4⟩
  all_goals
    go_enter Try.func5, Try.ntmps5
    go_wp2
    go_loop [10, 11] (fun ok i => ∃ j : Nat, j ≤ zs.length ∧ i = .int .i64 j ∧ ok = .bool false) (fun _ i => zs.length - (intOf i).toNat)
    case atStart => exact ⟨0, Nat.zero_le _, rfl, by simp; try omega⟩
    case round =>
      obtain ⟨j, hj, rfl, rfl⟩ := hrel
      by_cases hlt : j < zs.length
      · go_wp2
        go_round
        case rel => exact ⟨j + 1, by omega, by go_num, rfl⟩
        case measure => simp [intOf]; omega
      · go_wp2
        go_loop [10, 12] (fun ok i => ∃ j : Nat, j ≤ rs.length ∧ i = .int .i64 j ∧ ok = .bool false) (fun _ i => rs.length - (intOf i).toNat)
        case atStart => exact ⟨0, Nat.zero_le _, rfl, rfl⟩
        case round =>
          obtain ⟨q, hq, rfl, rfl⟩ := hrel
          by_cases hlt : q < rs.length
          · go_wp2
            go_round
            case rel => exact ⟨q + 1, by omega, by go_num, rfl⟩
            case measure => simp [intOf]; omega
          · go_wp2
            go_ret2
            exact ⟨rfl, rfl⟩

end Go.Proofs.Ytikbfhhkkplpbaa
