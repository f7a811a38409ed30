/-
  The reference's Mark (37): where the new mark stands among the others.
-/
import Derived.Test.YthdhegmlknpllaaGreatErm
namespace Go.Proofs.YthdhegmlknpllaaGreat
open Go.RowKit Go.Maps Go.MuLone

/-- How many marks stand ahead of one that came at c. -/
def ahead (c : Int) (ms : List (Int × Int)) : Nat := (ms.takeWhile (fun y => decide (y.2 < c))).length
def insM (m : Int × Int) (ms : List (Int × Int)) : List (Int × Int) := ms.take (ahead m.2 ms) ++ m :: ms.drop (ahead m.2 ms)

theorem ahead_cons (c : Int) (y : Int × Int) (r : List (Int × Int)) : ahead c (y :: r) = if y.2 < c then ahead c r + 1 else 0 := by
  unfold ahead
  by_cases h : y.2 < c <;> simp [h]
theorem ahead_le (c : Int) : ∀ (l : List (Int × Int)), ahead c l ≤ l.length
  | [] => by simp [ahead]
  | y :: r => by
    have := ahead_le c r
    rw [ahead_cons]
    split <;> simp <;> omega
theorem ahead_step (c : Int) : ∀ (l : List (Int × Int)) (k : Nat) (h : k < l.length), k ≤ ahead c l → l[k].2 < c → k + 1 ≤ ahead c l
  | y :: r, 0, _, _, hc => by
    have hc' : y.2 < c := hc
    rw [ahead_cons, if_pos hc']
    omega
  | y :: r, k + 1, h, hk, hc => by
    rw [ahead_cons] at hk ⊢
    split at hk
    · have := ahead_step c r k (by simpa using h) (by omega) (by simpa using hc)
      rw [if_pos (by assumption)]
      omega
    · omega
theorem ahead_stop (c : Int) : ∀ (l : List (Int × Int)) (k : Nat) (h : k < l.length), k ≤ ahead c l → ¬ l[k].2 < c → ahead c l = k
  | y :: r, 0, _, _, hc => by
    have hc' : ¬ y.2 < c := hc
    rw [ahead_cons, if_neg hc']
  | y :: r, k + 1, h, hk, hc => by
    rw [ahead_cons] at hk ⊢
    split at hk
    · rw [if_pos (by assumption), ahead_stop c r k (by simpa using h) (by omega) (by simpa using hc)]
    · omega
theorem ahead_all (c : Int) (l : List (Int × Int)) (h : l.length ≤ ahead c l) : ahead c l = l.length := by
  have := ahead_le c l
  omega
theorem insM_length (m : Int × Int) (l : List (Int × Int)) : (insM m l).length = l.length + 1 := by
  have := ahead_le m.2 l
  simp [insM]
  omega
theorem mkC_insM (m : Int × Int) (l : List (Int × Int)) : mkC (insM m l) = mkC (l.take (ahead m.2 l)) ++ mkCells m ++ mkC (l.drop (ahead m.2 l)) := by simp [mkC, insM]
end Go.Proofs.YthdhegmlknpllaaGreat
