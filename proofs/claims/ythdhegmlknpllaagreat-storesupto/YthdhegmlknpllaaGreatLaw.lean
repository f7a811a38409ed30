/-
  tetherlaw's pick (6), sameInts (41), sameSnaps (26), fresh (5).
-/
import Derived.Test.YthdhegmlknpllaaGreatRnw
import Derived.Laws.StructEq
namespace Go.Proofs.YthdhegmlknpllaaGreat
open Go.RowKit Go.Maps Go.MuLone

def pk (c n : Int) : Int := (if c < 0 then -(c + 1) else c) % n
theorem pk_lt (c n : Int) (h : 1 ≤ n) : 0 ≤ pk c n ∧ pk c n < n := ⟨Int.emod_nonneg _ (by omega), Int.emod_lt_of_pos _ (by omega)⟩

set_option maxHeartbeats 400000 in
theorem pick_any (c n : Int) (w : World) (hc : In64 c) (hn : 1 ≤ n) (hn2 : n ≤ 2000000000) :
    Calls Tryz.prog 8 #[.int .i64 c, .int .i64 n] w fun e w' => e = .returned (.int .i64 (pk c n)) ∧ w' = w := by
  obtain ⟨c1, c2⟩ := hc
  have hz : ¬ n = 0 := by omega
  by_cases h0 : c < 0
  · have hr := pk_lt c n hn
    have e : (-(c + 1)).tmod n = pk c n := by unfold pk; rw [if_pos h0, Int.tmod_eq_emod_of_nonneg (by omega)]
    rw [Int.neg_tmod] at e
    go_enter Tryz.func8, Tryz.ntmps8
    go_wp2
    go_ret
    refine ⟨ret_int ?_, rfl⟩
    go_num
  · have hr := pk_lt c n hn
    have e : c.tmod n = pk c n := by unfold pk; rw [if_neg h0, Int.tmod_eq_emod_of_nonneg (by omega)]
    rw [Int.tmod_eq_emod_of_nonneg (by omega)] at e
    go_enter Tryz.func8, Tryz.ntmps8
    go_wp2
    go_ret
    refine ⟨ret_int ?_, rfl⟩
    go_num

set_option maxHeartbeats 1000000 in
theorem sameInts_any (a1 a2 : Option Addr) (zs : List Int) (p1 p2 : Nat) (w : World) (h1 : RowG w a1 zs p1) (h2 : RowG w a2 zs p2) (hl : zs.length ≤ 2000000) :
    Calls Tryz.prog 47 #[.slice a1 zs.length p1, .slice a2 zs.length p2] w fun e w' => e = .returned (.bool true) ∧ ∃ q, w' = w.drewN q := by
  have HO : Hid (RowG w a1 zs p1 ∧ RowG w a2 zs p2) := ⟨h1, h2⟩
  clear h1 h2
  go_enter Tryz.func47, Tryz.ntmps47
  go_wp2
  go_loopw [5] (fun i wr => ∃ (k q : Nat), k ≤ zs.length ∧ i = .int .i64 k ∧ wr = w.drewN q) (fun i _ => zs.length - (intOf i).toNat)
  case atStart => exact ⟨0, 0, Nat.zero_le _, rfl, rfl⟩
  case round =>
    obtain ⟨k, q, hk, rfl, rfl⟩ := hrel
    by_cases hlt : k < zs.length
    · obtain ⟨b1, o1, hb1, hc1⟩ := HO.out.1.2 (by omega)
      obtain ⟨b2, o2, hb2, hc2⟩ := HO.out.2.2 (by omega)
      subst hb1
      subst hb2
      have e1 := HO.out.1.1
      have e2 := HO.out.2.1
      obtain ⟨z, hz⟩ : ∃ z, tm zs k = z := ⟨_, rfl⟩
      have d1 : ∀ m, (w.drewN m).cell? ⟨b1, o1 + k, none⟩ = some (.int .i64 z) := fun m => by rw [← hz]; exact hc1 k hlt
      have d2 : ∀ m, (w.drewN m).cell? ⟨b2, o2 + k, none⟩ = some (.int .i64 z) := fun m => by rw [← hz]; exact hc2 k hlt
      have hltz : (k : Int) < (zs.length : Int) := by omega
      clear hc1 hc2 hz
      go_wp2
      go_quiet (fail)
      go_wp2
      go_roundw
      case rel => exact ⟨k + 1, q + nq, by omega, by go_num, by first | rfl | trivial | simp [World.drewN, Nat.add_assoc]⟩
      case measure => simp [intOf]; omega
    · have hkk : k = zs.length := by omega
      subst hkk
      go_wp2
      go_ret
      exact ⟨rfl, q, rfl⟩

/-- A list of api.Snapshot. -/
def Row3 (w : World) (ao : Option Addr) (l : List (Int × Int × Int)) (cap : Nat) : Prop :=
  l.length ≤ cap ∧ (0 < l.length → ∃ b off, ao = some ⟨b, off, none⟩ ∧ ∀ i (h : i < l.length), w.cell? ⟨b, off + i * 3, none⟩ = some (.int .i64 l[i].1) ∧ w.cell? ⟨b, off + i * 3 + 1, none⟩ = some (.int .i64 l[i].2.1) ∧ w.cell? ⟨b, off + i * 3 + 2, none⟩ = some (.int .i64 l[i].2.2))
theorem tlC_get (l : List (Int × Int × Int)) (i : Nat) (h : i < l.length) : (tlC l)[i * 3]? = some (.int .i64 l[i].1) ∧ (tlC l)[i * 3 + 1]? = some (.int .i64 l[i].2.1) ∧ (tlC l)[i * 3 + 2]? = some (.int .i64 l[i].2.2) := by
  have hf : ∀ x, (t3c x).length = 3 := fun _ => rfl
  exact ⟨flat_get hf l i h 0 (by omega), flat_get hf l i h 1 (by omega), flat_get hf l i h 2 (by omega)⟩
theorem row3_blk {w : World} {g : Nat} {l : List (Int × Int × Int)} (h : w.heap[g]? = some (.cells (tlC l).toArray 61 (0, 0))) : Row3 w (some ⟨g, 0, none⟩) l l.length := by
  refine ⟨Nat.le_refl _, fun _ => ⟨g, 0, rfl, fun i hi => ?_⟩⟩
  have hg := tlC_get l i hi
  refine ⟨?_, ?_, ?_⟩ <;> rw [cell_of h, List.getElem?_toArray, Nat.zero_add]
  · exact hg.1
  · exact hg.2.1
  · exact hg.2.2
theorem row3_own {w : World} {base : Nat} {ao : Option Addr} {n cap : Nat} {l : List (Int × Int × Int)} (hn : l.length = n) (h : w.ownsRow base 61 3 (.slice ao n cap) n (tlC l)) : Row3 w ao l cap := by
  subst hn
  rcases h.2 with ⟨h1, h2⟩ | ⟨g, c, cur, h1, hb, hg, hc, hm, hs, ht⟩
  · simp at h1
    exact ⟨by omega, fun h => by omega⟩
  · simp at h1
    obtain ⟨rfl, rfl⟩ := h1
    refine ⟨hc, fun _ => ⟨g, 0, rfl, fun i hi => ?_⟩⟩
    have hq := tlC_get l i hi
    have hcell : ∀ j, j < l.length * 3 → w.cell? ⟨g, j, none⟩ = (tlC l)[j]? := fun j hj => by
      rw [cell_of hg, ← ht, List.getElem?_take_of_lt hj, ← Array.getElem?_toList]
    refine ⟨?_, ?_, ?_⟩ <;> rw [Nat.zero_add, hcell _ (by omega)]
    · exact hq.1
    · exact hq.2.1
    · exact hq.2.2

theorem neq61 (W : World) (a b c : Int) : (binOp .neq 61 (.agg #[.int .i64 a, .int .i64 b, .int .i64 c]) (.agg #[.int .i64 a, .int .i64 b, .int .i64 c])).run Tryz.prog W = .ok (.bool false) W := by
  have u3 := Tryz.underlying3
  have a3 := Tryz.isAgg3
  have z3 := Tryz.sizeOf3
  have hS : Tryz.prog.underlying 61 = some (.struct (Tryz.prog.fieldsOf 61)) := by kernel_rfl
  have hp : Tryz.prog.stoodInHeld 61 = false := by kernel_rfl
  rw [run_neq_struct, show (10000 : Nat) = 9999 + 1 from rfl, run_equalIn_agg W 9999 61 _ _ hS hp]
  simp only [Program.fieldsOf, Tryz.underlying61]
  go_simp

set_option maxRecDepth 100000 in
set_option maxHeartbeats 1000000 in
theorem sameSnaps_any (a1 a2 : Option Addr) (l : List (Int × Int × Int)) (p1 p2 : Nat) (w : World) (h1 : Row3 w a1 l p1) (h2 : Row3 w a2 l p2) (hl : l.length ≤ 2000000) :
    Calls Tryz.prog 32 #[.slice a1 l.length p1, .slice a2 l.length p2] w fun e w' => e = .returned (.bool true) ∧ ∃ q, w' = w.drewN q := by
  have HO : Hid (Row3 w a1 l p1 ∧ Row3 w a2 l p2) := ⟨h1, h2⟩
  have hm : Tryz.prog.eqGuardType Tryz.prog.depth 61 = false := by kernel_rfl
  clear h1 h2
  go_enter Tryz.func32, Tryz.ntmps32
  go_wp2
  go_loopw [5] (fun i wr => ∃ (k q : Nat), k ≤ l.length ∧ i = .int .i64 k ∧ wr = w.drewN q) (fun i _ => l.length - (intOf i).toNat)
  case atStart => exact ⟨0, 0, Nat.zero_le _, rfl, rfl⟩
  case round =>
    obtain ⟨k, q, hk, rfl, rfl⟩ := hrel
    by_cases hlt : k < l.length
    · obtain ⟨b1, o1, hb1, hc1⟩ := HO.out.1.2 (by omega)
      obtain ⟨b2, o2, hb2, hc2⟩ := HO.out.2.2 (by omega)
      subst hb1
      subst hb2
      have e1 := HO.out.1.1
      have e2 := HO.out.2.1
      obtain ⟨⟨x, y, z⟩, hz⟩ : ∃ z, l[k] = z := ⟨_, rfl⟩
      have q1 := hc1 k hlt
      have q2 := hc2 k hlt
      rw [hz] at q1 q2
      have d1 : ∀ m, (w.drewN m).cell? ⟨b1, o1 + k * 3, none⟩ = some (.int .i64 x) := fun m => q1.1
      have d2 : ∀ m, (w.drewN m).cell? ⟨b1, o1 + k * 3 + 1, none⟩ = some (.int .i64 y) := fun m => q1.2.1
      have d3 : ∀ m, (w.drewN m).cell? ⟨b1, o1 + k * 3 + 2, none⟩ = some (.int .i64 z) := fun m => q1.2.2
      have d4 : ∀ m, (w.drewN m).cell? ⟨b2, o2 + k * 3, none⟩ = some (.int .i64 x) := fun m => q2.1
      have d5 : ∀ m, (w.drewN m).cell? ⟨b2, o2 + k * 3 + 1, none⟩ = some (.int .i64 y) := fun m => q2.2.1
      have d6 : ∀ m, (w.drewN m).cell? ⟨b2, o2 + k * 3 + 2, none⟩ = some (.int .i64 z) := fun m => q2.2.2
      have hne := fun W => neq61 W x y z
      have hltz : (k : Int) < (l.length : Int) := by omega
      clear hc1 hc2 hz q1 q2
      go_wp2
      go_quiet (fail)
      go_wp2
      go_roundw
      case rel => exact ⟨k + 1, q + nq, by omega, by go_num, by first | rfl | trivial | simp [World.drewN, Nat.add_assoc]⟩
      case measure => simp [intOf]; omega
    · have hkk : k = l.length := by omega
      subst hkk
      go_wp2
      go_ret
      exact ⟨rfl, q, rfl⟩
end Go.Proofs.YthdhegmlknpllaaGreat
