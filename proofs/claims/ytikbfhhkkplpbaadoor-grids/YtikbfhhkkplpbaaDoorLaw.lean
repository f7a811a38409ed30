/-
  The walk of tether/tetherlaw.Grids (3).
-/
import Derived.Test.YtikbfhhkkplpbaaDoorOwn
namespace Go.Proofs.YtikbfhhkkplpbaaDoor
open Go.RowKit Pl

theorem rp_len : ∀ (f : Nat) (t : List UInt8) (rs : List (Int × Int)), rp (f + 1) t = some rs → rs.length ≤ f
  | 0, t, rs, h => by rw [rp5] at h; cases h
  | f + 1, t, rs, h => by
    rw [show rp (f + 2) t = match one t with | none => none | some (r, rest) => if f + 1 = 0 then none else (match rest with | [] => some [r] | b :: t4 => if b = 32 then (rp (f + 1) t4).map (r :: ·) else none) from rfl] at h
    split at h
    · cases h
    · rw [if_neg (by omega)] at h
      split at h
      · cases h; simp
      · split at h
        · cases hr : rp (f + 1) _ with
          | none => rw [hr] at h; cases h
          | some q =>
            rw [hr] at h
            simp at h
            subst h
            have := rp_len f _ q hr
            simp; omega
        · cases h
theorem rp_len5 (t : List UInt8) : ((rp 5 t).getD []).length ≤ 4 := by
  cases h : rp 5 t with
  | none => simp
  | some rs => exact rp_len 4 t rs h

theorem Own4.below {base : Nat} {w w' : World} {v : Value} {mark : Int} (h : Own4 base w v mark) (hb : Below w.heap.size w w') : Own4 base w' v mark := by
  obtain ⟨ls, h1, h2, h3⟩ := h
  exact ⟨ls, h1, own_below h2 hb, fun u hu => by obtain ⟨k, hk, h4⟩ := h3 u hu; exact ⟨k, hk, own_below h4 hb⟩⟩

theorem own_other {w w' : World} {base : Nat} {e : TypeId} {size : Nat} {v : Value} {n : Nat} {xs : List Value} {row : Option Nat} {B : Nat} (h : w.ownsRow base e size v n xs) (hg : w.grownBy w' row) (hr : ∀ b, row = some b → B ≤ b) (hv : ∀ b, v.ownBlock = some b → b < B) : w'.ownsRow base e size v n xs :=
  h.kept hg (by
    cases hb : v.ownBlock with
    | none => exact Or.inl rfl
    | some b => right; intro e; have := hv b hb; have := hr b e.symm; omega)

set_option maxHeartbeats 1000000 in
theorem grids_any (s : ByteArray) (w : World) (hs : s.size ≤ 140737488351232) :
    Calls Tryd.prog 3 #[.string s] w fun e w' => e = .returned (.bool true) ∧ Below w.heap.size w w' := by
  have hlen := rp_len5 (dl s)
  have HP := fun w => rparse_any s w hs
  have HG := fun w => gparse_any s w (by omega)
  obtain ⟨er, her⟩ : ∃ er, en (rp 5 (dl s)) = er := ⟨_, rfl⟩
  obtain ⟨rs, hrs⟩ : ∃ rs, (rp 5 (dl s)).getD [] = rs := ⟨_, rfl⟩
  rw [her, hrs] at HP HG
  rw [hrs] at hlen
  have HHP : Hid _ := HP
  have HHG : Hid _ := HG
  clear her hrs HP HG
  go_enter Tryd.func3, Tryd.ntmps3
  go_wp2_with fail
  refine (HHP.out _).mono ?_
  rintro e w1 ⟨v0, rfl, hv0, hb1⟩
  go_wp2_with fail
  refine (HHG.out _).mono ?_
  rintro e w2 ⟨x, rfl, hx, hb2⟩
  have hv02 := own_below hv0 hb2
  go_wp2_with fail
  refine (same_any x v0 rs _ _ _ hx hv02 (by omega)).mono ?_
  rintro e w2' ⟨rfl, n1, rfl⟩
  go_wp2_with fail
  have hxo : (w2.drewN n1).ownsRow w1.heap.size 34 2 x rs.length (rc rs) := hx
  refine (own_any x rs (-77) w1.heap.size _ hxo hb2.size hlen).mono ?_
  rintro e w3 ⟨one_, rfl, ho3, hg3⟩
  have hxr : ∀ b, x.ownBlock = some b → w1.heap.size ≤ b := fun b hb => (hx.lt b hb).1
  have hv0r : ∀ b, v0.ownBlock = some b → b < w1.heap.size := fun b hb => (hv0.lt b hb).2
  have hv03 : w3.ownsRow w.heap.size 34 2 v0 rs.length (rc rs) := own_other (show (w2.drewN n1).ownsRow w.heap.size 34 2 v0 rs.length (rc rs) from hv02) hg3 hxr hv0r
  have hb13 : Below w1.heap.size w1 w3 := (bdn hb2 n1).grown hg3 hb2.size hxr
  have K1 : Hid _ := And.intro hv03 (And.intro hb13 (And.intro ho3 hb1))
  clear hv0 hb1 hx hb2 hv02 hxo ho3 hg3 hxr hv0r hv03 hb13
  go_wp2_with fail
  refine (HHG.out _).mono ?_
  rintro e w4 ⟨y, rfl, hy, hb4⟩
  go_wp2_with fail
  refine (same_any y v0 rs _ _ _ hy (own_below K1.out.1 hb4) (by omega)).mono ?_
  rintro e w4' ⟨rfl, n2, rfl⟩
  go_wp2_with fail
  have hyo : (w4.drewN n2).ownsRow w3.heap.size 34 2 y rs.length (rc rs) := hy
  refine (own_any y rs (-78) w3.heap.size _ hyo hb4.size hlen).mono ?_
  rintro e w5 ⟨two_, rfl, ho5, hg5⟩
  have hyr : ∀ b, y.ownBlock = some b → w3.heap.size ≤ b := fun b hb => (hy.lt b hb).1
  have hb35 : Below w3.heap.size w3 w5 := (bdn hb4 n2).grown hg5 hb4.size hyr
  have K2 : Hid _ := And.intro (K1.out.2.2.1.below hb35) (And.intro ho5 (show Below w.heap.size w w5 from (K1.out.2.2.2.trans (K1.out.2.1.mono K1.out.2.2.2.size)).trans (hb35.mono (Nat.le_trans K1.out.2.2.2.size K1.out.2.1.size))))
  clear hy hb4 hyo ho5 hg5 hyr hb35 K1
  go_wp2_with fail
  refine (kept_any _ _ _ _ K2.out.1).mono ?_
  rintro e w6 ⟨rfl, hw⟩
  rw [hw]
  clear hw
  go_wp2_with fail
  refine (kept_any _ _ _ _ K2.out.2.1).mono ?_
  rintro e w7 ⟨rfl, hw⟩
  rw [hw]
  clear hw
  go_wp2
  go_ret
  exact ⟨by simp, K2.out.2.2⟩
end Go.Proofs.YtikbfhhkkplpbaaDoor
