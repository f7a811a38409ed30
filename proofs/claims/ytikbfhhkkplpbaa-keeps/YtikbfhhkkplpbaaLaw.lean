/-
  The walk of tether/tetherlaw.Keeps (3).
-/
import Derived.Test.YtikbfhhkkplpbaaRefKeep
import Derived.Test.YtikbfhhkkplpbaaCopy
import Derived.Deep.DeepCutAuto
namespace Go.Proofs.Ytikbfhhkkplpbaa
open Go.RowKit Pl

/-- What Keep answers: the marks, and the error's number. -/
def ansB (now : Int) (zs : List Int) (last : Int) (rs : List (Int × Int)) : List Bool := if okA now zs last rs = true then (List.range zs.length).map (keepR now zs last rs) else []
def ansE (now : Int) (zs : List Int) (last : Int) (rs : List (Int × Int)) : Int := if okA now zs last rs = true then 0 else 1
theorem ansB_len (now : Int) (zs : List Int) (last : Int) (rs : List (Int × Int)) : (ansB now zs last rs).length ≤ zs.length := by unfold ansB; split <;> simp
theorem ansB_ok (now : Int) (zs : List Int) (last : Int) (rs : List (Int × Int)) (h : okA now zs last rs = true) : bc (ansB now zs last rs) = kr now zs last rs ∧ (ansB now zs last rs).length = zs.length := by
  unfold ansB; rw [if_pos h]; exact ⟨by simp [bc, kr], by simp⟩

theorem refK (now last : Int) (a1 a3 : Option Addr) (zs : List Int) (rs : List (Int × Int)) (c1 c3 : Nat) (w : World) (h1 : RowI w a1 zs c1) (h3 : RowR w a3 rs c3) (hz : zs.length ≤ 17592186044416) (hr : rs.length ≤ 17592186044416) :
    Calls Try.prog 5 #[.int .i64 now, .slice a1 zs.length c1, .int .i64 last, .slice a3 rs.length c3] w fun e w' => ∃ v, e = .returned (.tuple #[v, .int .i64 (ansE now zs last rs)]) ∧ w'.ownsRow w.heap.size 4 1 v (ansB now zs last rs).length (bc (ansB now zs last rs)) ∧ Below w.heap.size w w' := by
  cases hb : b0 now last rs.length with
  | false =>
    have hok : okA now zs last rs = false := by rw [okA_b0, hb]; simp
    refine (refkeep_b0 now last a1 a3 zs rs c1 c3 w hz hr hb).mono fun e w' ⟨he, hw⟩ => ⟨.slice none 0 0, ?_, ?_, ?_⟩
    · rw [he, ansE, if_neg (by rw [hok]; simp)]
    · rw [ansB, if_neg (by rw [hok]; simp)]; exact World.ownsRow_nil _ _ _ _
    · rw [hw]; exact Below.refl _ _
  | true =>
    refine (refkeep_main now last a1 a3 zs rs c1 c3 w h1 h3 hz hb).mono fun e w' h => ?_
    rcases h with ⟨hok, he, hbl⟩ | ⟨hok, v, he, ho, hbl⟩
    · refine ⟨.slice none 0 0, ?_, ?_, hbl⟩
      · rw [he, ansE, if_neg (by rw [hok]; simp)]
      · rw [ansB, if_neg (by rw [hok]; simp)]; exact World.ownsRow_nil _ _ _ _
    · obtain ⟨e1, e2⟩ := ansB_ok now zs last rs hok
      exact ⟨v, by rw [he, ansE, if_pos hok], by rw [e1, e2]; exact ho, hbl⟩

theorem keepK (now last : Int) (a1 a3 : Option Addr) (zs : List Int) (rs : List (Int × Int)) (c1 c3 : Nat) (w : World) (h1 : RowI w a1 zs c1) (h3 : RowR w a3 rs c3) (hz : zs.length ≤ 17592186044416) (hr : rs.length ≤ 17592186044416) (hl : last ≤ 9223372036854775807) :
    Calls Try.prog 6 #[.int .i64 now, .slice a1 zs.length c1, .int .i64 last, .slice a3 rs.length c3] w fun e w' => ∃ v, e = .returned (.tuple #[v, .int .i64 (ansE now zs last rs)]) ∧ w'.ownsRow w.heap.size 4 1 v (ansB now zs last rs).length (bc (ansB now zs last rs)) ∧ Below w.heap.size w w' := by
  cases hok : okA now zs last rs with
  | false =>
    refine (keep_bad now last a1 a3 zs rs c1 c3 w h1 h3 hz hr hok).mono fun e w' ⟨he, hbl⟩ => ⟨.slice none 0 0, ?_, ?_, hbl⟩
    · rw [he, ansE, if_neg (by rw [hok]; simp)]
    · rw [ansB, if_neg (by rw [hok]; simp)]; exact World.ownsRow_nil _ _ _ _
  | true =>
    obtain ⟨e1, e2⟩ := ansB_ok now zs last rs hok
    exact (keep_ok now last a1 a3 zs rs c1 c3 w h1 h3 hz hr hl hok).mono fun e w' ⟨g, he, ho, hbl⟩ => ⟨.slice (some ⟨g, 0, none⟩) zs.length zs.length, by rw [he, ansE, if_pos hok], by rw [e1, e2]; exact ho, hbl⟩

theorem own_other {w w' : World} {base : Nat} {e : TypeId} {size : Nat} {v : Value} {n : Nat} {xs : List Value} {row : Option Nat} {B : Nat} (h : w.ownsRow base e size v n xs) (hg : w.grownBy w' row) (hr : ∀ b, row = some b → B ≤ b) (hv : ∀ b, v.ownBlock = some b → b < B) : w'.ownsRow base e size v n xs :=
  h.kept hg (by
    cases hb : v.ownBlock with
    | none => exact Or.inl rfl
    | some b => right; intro e; have := hv b hb; have := hr b e.symm; omega)

/-- The cells of what is handed in: the times, and two marks behind them. -/
def zc (zs : List Int) : List Value := (List.range zs.length).map fun i => .int .i64 (tm zs i)
def rcl (rs : List (Int × Int)) : List Value := rs.flatMap fun r => [.int .i64 r.1, .int .i64 r.2]
theorem zc_len (zs : List Int) : (zc zs).length = zs.length := by simp [zc]
theorem rcl_len (rs : List (Int × Int)) : (rcl rs).length = rs.length * 2 := by
  induction rs with
  | nil => rfl
  | cons r l ih => simp [rcl] at ih ⊢; omega
theorem zc_get (zs : List Int) (i : Nat) (h : i < zs.length) : (zc zs)[i]? = some (.int .i64 (tm zs i)) := by simp [zc, h]
theorem rcl_get (rs : List (Int × Int)) (k : Nat) (h : k < rs.length) : (rcl rs)[k * 2]? = some (.int .i64 rs[k].1) ∧ (rcl rs)[k * 2 + 1]? = some (.int .i64 rs[k].2) := by
  induction rs generalizing k with
  | nil => simp at h
  | cons r l ih =>
    cases k with
    | zero => simp [rcl]
    | succ k =>
      have := ih k (by simpa using h)
      have e : rcl (r :: l) = .int .i64 r.1 :: .int .i64 r.2 :: rcl l := rfl
      rw [e, show (k + 1) * 2 = k * 2 + 1 + 1 by omega]
      simpa using this

def gl (zs : List Int) : List Value := zc zs ++ [.int .i64 77, .int .i64 77]
def ll (rs : List (Int × Int)) : List Value := rcl rs ++ [.int .i64 77, .int .i64 0, .int .i64 77, .int .i64 0]

theorem zc_src {w : World} {ao : Option Addr} {zs : List Int} {cap : Nat} (h : RowI w ao zs cap) (h0 : 0 < zs.length) : ∃ ad, ao = some ad ∧ ∀ j v, (zc zs)[j]? = some v → w.cell? (ad.add j) = some v := by
  obtain ⟨b, off, e, hc⟩ := h.2 h0
  refine ⟨_, e, fun j v hj => ?_⟩
  have hl : j < zs.length := by
    rcases Nat.lt_or_ge j zs.length with x | x
    · exact x
    · rw [List.getElem?_eq_none (by rw [zc_len]; exact x)] at hj; cases hj
  rw [zc_get zs j hl] at hj
  cases hj
  rw [Addr.add_lit]
  exact hc j hl
theorem rcl_src {w : World} {ao : Option Addr} {rs : List (Int × Int)} {cap : Nat} (h : RowR w ao rs cap) (h0 : 0 < rs.length) : ∃ ad, ao = some ad ∧ ∀ j v, (rcl rs)[j]? = some v → w.cell? (ad.add j) = some v := by
  obtain ⟨b, off, e, hc⟩ := h.2 h0
  refine ⟨_, e, fun j v hj => ?_⟩
  have hl : j < rs.length * 2 := by
    rcases Nat.lt_or_ge j (rs.length * 2) with x | x
    · exact x
    · rw [List.getElem?_eq_none (by rw [rcl_len]; exact x)] at hj; cases hj
  rw [Addr.add_lit]
  obtain ⟨q, hq⟩ : ∃ q, j = q * 2 ∨ j = q * 2 + 1 := ⟨j / 2, by omega⟩
  have hk : q < rs.length := by omega
  have hg := rcl_get rs q hk
  have hcc := hc q hk
  rcases hq with rfl | rfl
  · rw [hg.1] at hj
    cases hj
    exact hcc.1
  · rw [hg.2] at hj
    cases hj
    exact hcc.2
theorem zc_one (zs : List Int) : ∀ v ∈ zc zs, v.oneCell' = true := by
  intro v hv
  simp [zc] at hv
  obtain ⟨a, _, rfl⟩ := hv
  rfl
theorem rcl_one (rs : List (Int × Int)) : ∀ v ∈ rcl rs, v.oneCell' = true := by
  intro v hv
  simp [rcl] at hv
  obtain ⟨a, _, _, hv⟩ := hv
  rcases hv with rfl | rfl <;> rfl

/-- What holds of the two copies. -/
def Giv (w : World) (G1 G2 : Nat) (zs : List Int) (rs : List (Int × Int)) (wx : World) : Prop :=
  Below w.heap.size w wx ∧ wx.ownsRow w.heap.size 3 1 (.slice (some ⟨G1, 0, none⟩) (zs.length + 2) (zs.length + 2)) (zs.length + 2) (gl zs) ∧ wx.ownsRow w.heap.size 25 2 (.slice (some ⟨G2, 0, none⟩) (rs.length + 2) (rs.length + 2)) (rs.length + 2) (ll rs)

theorem Giv.rowI {w : World} {G1 G2 : Nat} {zs : List Int} {rs : List (Int × Int)} {wx : World} (h : Giv w G1 G2 zs rs wx) : RowI wx (some ⟨G1, 0, none⟩) zs (zs.length + 2) :=
  ⟨by omega, fun _ => ⟨G1, 0, rfl, fun i hi => by
    rw [Nat.zero_add, h.2.1.cellAt i (by omega), gl, List.getElem?_append_left (by rw [zc_len]; exact hi)]
    exact zc_get zs i hi⟩⟩
theorem Giv.rowR {w : World} {G1 G2 : Nat} {zs : List Int} {rs : List (Int × Int)} {wx : World} (h : Giv w G1 G2 zs rs wx) : RowR wx (some ⟨G2, 0, none⟩) rs (rs.length + 2) :=
  ⟨by omega, fun _ => ⟨G2, 0, rfl, fun i hi => by
    have hg := rcl_get rs i hi
    constructor
    · rw [Nat.zero_add, h.2.2.cellAt (i * 2) (by omega), ll, List.getElem?_append_left (by rw [rcl_len]; omega)]
      exact hg.1
    · rw [Nat.zero_add, h.2.2.cellAt (i * 2 + 1) (by omega), ll, List.getElem?_append_left (by rw [rcl_len]; omega)]
      exact hg.2⟩⟩
theorem Giv.below {w : World} {G1 G2 : Nat} {zs : List Int} {rs : List (Int × Int)} {wx w' : World} (h : Giv w G1 G2 zs rs wx) (hb : Below wx.heap.size wx w') : Giv w G1 G2 zs rs w' :=
  ⟨h.1.trans (hb.mono h.1.size), own_below h.2.1 hb, own_below h.2.2 hb⟩
end Go.Proofs.Ytikbfhhkkplpbaa
