import Derived.Test.YthdhegmlknpllaaGreatM32
import Derived.Test.YthdhegmlknpllaaGreatM24
import Derived.Laws.ResultCell
/-
  The walk of wire.ParseStream (74), where the check is not right.
-/
namespace Go.Proofs.YthdhegmlknpllaaGreat
open Go.RowKit Go.Maps Go.MuLone

def zeroS : Value := .agg #[.int .i64 0, .int .i64 0, .int .i64 0, .int .i64 0, .slice none 0 0]
/-- Where the check begins. -/
def ckAt (t : ByteArray) : Nat := t.size - 4

set_option maxRecDepth 100000 in
set_option maxHeartbeats 1600000 in
theorem parse_bad (t : ByteArray) (w : World) (ht : t.size ≤ 2000000) (hc : ((t.extract (ckAt t) t.size).toList == (chk (t.extract 0 (ckAt t)).data.toList).ba.toList) = false) :
    Calls Tryz.prog 79 #[.string t] w fun e w' => e = .returned (.tuple #[zeroS, .bool false]) ∧ Fr [] w w' := by
  obtain ⟨c, hcc⟩ : ∃ c, ckAt t = c := ⟨_, rfl⟩
  have hcz : c ≤ t.size := by rw [← hcc]; unfold ckAt; omega
  have hce : c = t.size - 4 := by rw [← hcc]; rfl
  rw [hcc] at hc
  have HC : Hid (∀ W, Calls Tryz.prog 107 #[.string (t.extract 0 c)] W fun e w' => e = .returned (.string (chk (t.extract 0 c).data.toList).ba) ∧ Fr [] W w') := fun W => checkOf_any _ W (by rw [ByteArray.size_extract]; omega)
  obtain ⟨ck, hck⟩ : ∃ ck, (chk (t.extract 0 c).data.toList).ba = ck := ⟨_, rfl⟩
  rw [hck] at HC hc
  obtain ⟨n, hn⟩ : ∃ n, t.size = n := ⟨_, rfl⟩
  rw [hn] at hcz hce hc ht
  have hmx : max (0 : Int) (IntKind.i64.wrap ((n : Int) - 4)) = (c : Int) := by
    rw [wrap_fit' (by omega) (by omega)]
    omega
  have hmy : max (0 : Int) ((n : Int) - 4) = (c : Int) := by omega
  have c0 : (0 : Int) ≤ (c : Int) := by omega
  have c1 : (c : Int) ≤ (n : Int) := by omega
  obtain ⟨w0, hw0⟩ : ∃ w0, w.alloc (.cells #[.int .i64 0, .int .i64 0, .int .i64 0, .int .i64 0, .slice none 0 0] 135) = w0 := ⟨_, rfl⟩
  obtain ⟨bx, hbx⟩ : ∃ bx, w.heap.size = bx := ⟨_, rfl⟩
  have b0 : w0.heap[bx]? = some (.cells #[.int .i64 0, .int .i64 0, .int .i64 0, .int .i64 0, .slice none 0 0] 135 (0, 0)) := by rw [← hw0, ← hbx]; exact heap_alloc_new w _
  have HB : Hid (w0.heap[bx]? = some (.cells #[.int .i64 0, .int .i64 0, .int .i64 0, .int .i64 0, .slice none 0 0] 135 (0, 0)) ∧ Fr [] w w0 ∧ w.heap.size = bx) := ⟨b0, by rw [← hw0]; exact (Fr.refl _ _).alloc _, hbx⟩
  have hw0' := hw0
  clear hw0 b0 hck hcc hmx hmy
  by_cases h4 : 5 ≤ n
  · have hnc : (n : Int) - 4 = (c : Int) := by omega
    have cpos : ¬ (c : Int) ≤ 0 := by omega
    have cpos2 : (0 : Int) < (c : Int) := by omega
    clear hce
    go_enter Tryz.func79, Tryz.ntmps79
    go_wp2
    go_region_with
      (first
        | (go_at_call 107; refine (HC.out _).mono ?_; rintro e w5 ⟨rfl, f5⟩; have f5' : Fr [] w0 w5 := ((Fr.refl [] w0).drew).tr f5; have x5 : w5.heap[bx]? = _ := (f5'.block bx (Array.getElem?_eq_some_iff.1 HB.out.1).1 (by simp)).trans HB.out.1; have y0 : w5.cell? ⟨bx, 0, none⟩ = some (.int .i64 0) := (by rw [cell_of x5]; rfl); have y1 : w5.cell? ⟨bx, 1, none⟩ = some (.int .i64 0) := (by rw [cell_of x5]; rfl); have y2 : w5.cell? ⟨bx, 2, none⟩ = some (.int .i64 0) := (by rw [cell_of x5]; rfl); have y3 : w5.cell? ⟨bx, 3, none⟩ = some (.int .i64 0) := (by rw [cell_of x5]; rfl); have y4 : w5.cell? ⟨bx, 4, none⟩ = some (.slice none 0 0) := (by rw [cell_of x5]; rfl); have z0 := froz_of x5 0; have z1 := froz_of x5 1; have z2 := froz_of x5 2; have z3 := froz_of x5 3; have z4 := froz_of x5 4; clear x5 f5))
    all_goals
      go_wp2
      refine bodyPost_ret (v := .tuple #[zeroS, .bool false]) ?_ rfl ⟨rfl, ?_⟩
      · rw [results_cell_tmp rfl]
        go_simp
        rfl
      · have hbs : w.heap.size ≤ bx := Nat.le_of_eq HB.out.2.2
        exact ((((((HB.out.2.1.tr f5').setCell _ (Or.inr hbs)).setCell _ (Or.inr hbs)).setCell _ (Or.inr hbs)).setCell _ (Or.inr hbs)).setCell _ (Or.inr hbs))
  · have hneg : (n : Int) - 4 ≤ 0 := by omega
    have hc0 : c = 0 := by omega
    subst hc0
    have e00 : t.extract 0 0 = ByteArray.empty := by simp
    rw [e00] at HC
    clear hce e00
    go_enter Tryz.func79, Tryz.ntmps79
    go_wp2
    go_region_with
      (first
        | (go_at_call 107; refine (HC.out _).mono ?_; rintro e w5 ⟨rfl, f5⟩; have f5' : Fr [] w0 w5 := ((Fr.refl [] w0).drew).tr f5; have x5 : w5.heap[bx]? = _ := (f5'.block bx (Array.getElem?_eq_some_iff.1 HB.out.1).1 (by simp)).trans HB.out.1; have y0 : w5.cell? ⟨bx, 0, none⟩ = some (.int .i64 0) := (by rw [cell_of x5]; rfl); have y1 : w5.cell? ⟨bx, 1, none⟩ = some (.int .i64 0) := (by rw [cell_of x5]; rfl); have y2 : w5.cell? ⟨bx, 2, none⟩ = some (.int .i64 0) := (by rw [cell_of x5]; rfl); have y3 : w5.cell? ⟨bx, 3, none⟩ = some (.int .i64 0) := (by rw [cell_of x5]; rfl); have y4 : w5.cell? ⟨bx, 4, none⟩ = some (.slice none 0 0) := (by rw [cell_of x5]; rfl); have z0 := froz_of x5 0; have z1 := froz_of x5 1; have z2 := froz_of x5 2; have z3 := froz_of x5 3; have z4 := froz_of x5 4; clear x5 f5))
    all_goals
      go_wp2
      refine bodyPost_ret (v := .tuple #[zeroS, .bool false]) ?_ rfl ⟨rfl, ?_⟩
      · rw [results_cell_tmp rfl]
        go_simp
        rfl
      · have hbs : w.heap.size ≤ bx := Nat.le_of_eq HB.out.2.2
        exact ((((((HB.out.2.1.tr f5').setCell _ (Or.inr hbs)).setCell _ (Or.inr hbs)).setCell _ (Or.inr hbs)).setCell _ (Or.inr hbs)).setCell _ (Or.inr hbs))
end Go.Proofs.YthdhegmlknpllaaGreat
