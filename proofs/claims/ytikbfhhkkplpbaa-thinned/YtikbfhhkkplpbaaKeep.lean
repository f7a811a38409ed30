/-
  The walk of tether/grid.Keep (6).
-/
import Derived.Test.YtikbfhhkkplpbaaRule
import Derived.Deep.RegionHeld3
namespace Go.Proofs.Ytikbfhhkkplpbaa
open Go.RowKit Pl

def okA (now : Int) (zs : List Int) (last : Int) (rs : List (Int × Int)) : Bool := okT now && zs.all okT && decide (0 ≤ last) && okRs rs
def kr (now : Int) (zs : List Int) (last : Int) (rs : List (Int × Int)) : List Value := (List.range zs.length).map fun k => .bool (keepR now zs last rs k)

theorem bs_kr (now : Int) (zs : List Int) (last : Int) (rs : List (Int × Int)) (h0 : 0 ≤ last) (hr : okRs rs = true) : bs zs.length (prS now zs last.toNat rs (ordN zs)) = kr now zs last rs := by
  unfold bs kr
  apply List.map_congr_left
  intro k hk
  have hs : ∀ r ∈ rs, 1 ≤ r.2 := by
    intro r hm
    simp only [okRs, Bool.and_eq_true, List.all_eq_true] at hr
    have := hr.2 r hm
    simp [okR] at this
    omega
  have := keep_eq (now := now) (ordN_ord zs) (List.mem_range.1 hk) last h0 rs hs
  cases hkk : keepR now zs last rs k with
  | true => rw [hkk] at this; simp [this.2 rfl]
  | false => rw [hkk] at this; simp only [Bool.false_eq_true, iff_false] at this; simp [this]

theorem row_one (w : World) (now : Int) : RowI (w.alloc (.cells #[.int .i64 now] 3)) (some ⟨w.heap.size, 0, none⟩) [now] 1 :=
  ⟨Nat.le_refl _, fun _ => ⟨_, _, rfl, fun i hi => by
    have : i = 0 := by simpa using hi
    subst this
    simp [tm]⟩⟩

theorem info4 : (Try.prog.info? 4).map (fun i => (i.zero, i.size, i.bytes)) = some (some (.bool false), 1, 1) := by kernel_rfl

set_option maxHeartbeats 1000000 in
theorem keep_bad (now last : Int) (a1 a3 : Option Addr) (zs : List Int) (rs : List (Int × Int)) (c1 c3 : Nat) (w : World) (h1 : RowI w a1 zs c1) (h3 : RowR w a3 rs c3) (hz : zs.length ≤ 17592186044416) (hr : rs.length ≤ 17592186044416) (hok : okA now zs last rs = false) :
    Calls Try.prog 6 #[.int .i64 now, .slice a1 zs.length c1, .int .i64 last, .slice a3 rs.length c3] w fun e w' => e = .returned (.tuple #[.slice none 0 0, .int .i64 1]) ∧ Below w.heap.size w w' := by
  have hb0 : Below w.heap.size w (w.alloc (.cells #[.int .i64 now] 3)) := (Below.refl _ _).alloc (Nat.le_refl _) _
  have HT1 := tmay_any _ [now] 1 _ (row_one w now) (by simp)
  have HT2 := tmay_any a1 zs c1 _ (h1.below hb0) hz
  have HR3 := rmay_any a3 rs c3 _ (h3.below hb0) hr
  have e1 : [now].all okT = okT now := by simp
  rw [e1] at HT1
  have hsz : (w.alloc (.cells #[.int .i64 now] 3)).heap.size = w.heap.size + 1 := by simp
  rw [hsz] at HR3
  clear h1 h3
  cases x1 : okT now with
  | false =>
    rw [x1] at HT1
    clear HT2 HR3 hok x1 e1
    go_enter Try.func6, Try.ntmps6
    go_wp2_with fail
    refine HT1.mono ?_
    rintro e w1 ⟨rfl, hw⟩
    rw [hw]
    go_wp2
    go_ret2
    exact ⟨rfl, hb0⟩
  | true =>
    rw [x1] at HT1
    cases x2 : zs.all okT with
    | false =>
      rw [x2] at HT2
      clear HR3 hok x1 x2 e1
      go_enter Try.func6, Try.ntmps6
      go_wp2_with fail
      refine HT1.mono ?_
      rintro e w1 ⟨rfl, hw⟩
      rw [hw]
      clear hw
      go_wp2_with fail
      refine HT2.mono ?_
      rintro e w2 ⟨rfl, hw⟩
      rw [hw]
      go_wp2
      go_ret2
      exact ⟨rfl, hb0⟩
    | true =>
      rw [x2] at HT2
      by_cases x3 : last < 0
      · clear HR3 hok x1 x2 e1
        go_enter Try.func6, Try.ntmps6
        go_wp2_with fail
        refine HT1.mono ?_
        rintro e w1 ⟨rfl, hw⟩
        rw [hw]
        clear hw
        go_wp2_with fail
        refine HT2.mono ?_
        rintro e w2 ⟨rfl, hw⟩
        rw [hw]
        go_wp2
        go_ret2
        exact ⟨rfl, hb0⟩
      · have x4 : okRs rs = false := by
          have : decide (0 ≤ last) = true := by simp; omega
          rw [okA, x1, x2, this] at hok
          simpa using hok
        rw [x4] at HR3
        clear hok x1 x2 x4 e1
        go_enter Try.func6, Try.ntmps6
        go_wp2_with fail
        refine HT1.mono ?_
        rintro e w1 ⟨rfl, hw⟩
        rw [hw]
        clear hw
        go_wp2_with fail
        refine HT2.mono ?_
        rintro e w2 ⟨rfl, hw⟩
        rw [hw]
        clear hw
        go_wp2_with fail
        refine HR3.mono ?_
        rintro e w3 ⟨rfl, hb3⟩
        go_wp2
        go_ret2
        exact ⟨rfl, hb0.trans (hb3.mono (by omega))⟩
end Go.Proofs.Ytikbfhhkkplpbaa
