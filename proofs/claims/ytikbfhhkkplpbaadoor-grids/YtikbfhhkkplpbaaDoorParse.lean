/-
  The walk of tether/grid.Parse (5).
-/
import Derived.Test.YtikbfhhkkplpbaaDoorSplit
namespace Go.Proofs.YtikbfhhkkplpbaaDoor
open Go.RowKit Pl

theorem info34 : (Tryd.prog.info? 34).map (fun i => (i.zero, i.size, i.bytes)) = some (some (.agg #[.int .i64 0, .int .i64 0]), 2, 16) := by kernel_rfl

/-- The cells of a list of rules. -/
def rc (rs : List (Int × Int)) : List Value := rs.flatMap fun r => [.int .i64 r.1, .int .i64 r.2]
theorem rc_len (rs : List (Int × Int)) : (rc rs).length = rs.length * 2 := by
  induction rs with
  | nil => rfl
  | cons r l ih => simp [rc] at ih ⊢; omega
theorem rc_app (a b : List (Int × Int)) : rc (a ++ b) = rc a ++ rc b := by simp [rc]

theorem below_grown {w w' : World} (h : Below w.heap.size w w') : w.grownBy w' none := ⟨h.os, h.tape, h.output, h.size, fun k hk _ => h.block k hk⟩
theorem own_below {w w' : World} {base : Nat} {e : TypeId} {size : Nat} {v : Value} {n : Nat} {xs : List Value} (h : w.ownsRow base e size v n xs) (hb : Below w.heap.size w w') : w'.ownsRow base e size v n xs :=
  h.kept (below_grown hb) (by cases hv : v.ownBlock <;> simp)
theorem own_base {w : World} {base base' : Nat} {e : TypeId} {size : Nat} {v : Value} {n : Nat} {xs : List Value} (h : w.ownsRow base e size v n xs) (hb : base' ≤ base) : w.ownsRow base' e size v n xs := by
  refine ⟨h.1, ?_⟩
  rcases h.2 with hn | ⟨g, cap, cur, hv, hg, r⟩
  · exact Or.inl hn
  · exact Or.inr ⟨g, cap, cur, hv, by omega, r⟩

/-- What Parse hands back for what the plain function says. -/
def en (o : Option (List (Int × Int))) : Int := if o.isSome then 0 else 2

theorem gp_step (p : List UInt8) (l : List (List UInt8)) (r : Int × Int) (h : pr p = some r) : gp (p :: l) = (gp l).map (r :: ·) := by simp [gp, h]
theorem gp_fail (p : List UInt8) (l : List (List UInt8)) (h : pr p = none) : gp (p :: l) = none := by simp [gp, h]

theorem mna (o : Option (List (Int × Int))) : o = o.map ([] ++ ·) := by cases o <;> simp
theorem mns (o : Option (List (Int × Int))) (rs : List (Int × Int)) (r : Int × Int) : (o.map (r :: ·)).map (rs ++ ·) = o.map ((rs ++ [r]) ++ ·) := by cases o <;> simp

theorem cell_piece (w : World) (ps : List ByteArray) (N k : Nat) (h : k < ps.length) (_hN : ps.length ≤ N) : (w.alloc (.cells (Lib.cellsOf ps N) 9)).cell? ⟨w.heap.size, k, none⟩ = some (.string (ps[k]'h)) := by
  rw [cell_of_row _ _ k (Lib.cellsOf ps N) 9 (0, 0) (heap_alloc_new w _)]
  simp only [Lib.cellsOf, List.getElem?_toArray]
  rw [List.getElem?_append_left (by simpa using h)]
  simp [h]

theorem spN_enough : ∀ (k j : Nat) (t : List UInt8), t.length ≤ k → spN (k + j) t = spN k t
  | 0, j, t, h => by
    have : t = [] := List.eq_nil_of_length_eq_zero (by omega)
    subst this
    rw [spN_miss _ _ (by simp), spN_miss _ _ (by simp)]
  | k + 1, j, t, h => by
    by_cases hb : (32 : UInt8) ∈ t
    · obtain ⟨p, r, rfl, hp⟩ := tw_in 32 t hb
      rw [show k + 1 + j = (k + j) + 1 by omega, spN_hit _ p r hp, spN_hit _ p r hp, spN_enough k j r (by simp at h; omega)]
    · rw [spN_miss _ _ hb, spN_miss _ _ hb]

theorem rp_pieces (s : ByteArray) (N : Nat) (hN : N = min 5 (s.size + 1)) (ps : List ByteArray) (h1 : ps.map dl = spN (N - 1) (dl s)) : rp 5 (dl s) = if 4 < ps.length then none else gp (ps.map dl) := by
  have e : spN (N - 1) (dl s) = spN 4 (dl s) := by
    by_cases h : s.size ≤ 4
    · have := spN_enough (N - 1) (4 - (N - 1)) (dl s) (by simp [dl]; omega)
      rw [← this]; congr 1; omega
    · congr 1; omega
  rw [rp_eq 4, ← e, ← h1]
  simp

set_option maxHeartbeats 2000000 in
theorem gparse_any (s : ByteArray) (w : World) (hs : s.size ≤ 140737488355328) :
    Calls Tryd.prog 5 #[.string s] w fun e w' => ∃ v, e = .returned (.tuple #[v, .int .i64 (en (rp 5 (dl s)))]) ∧ w'.ownsRow w.heap.size 34 2 v ((rp 5 (dl s)).getD []).length (rc ((rp 5 (dl s)).getD [])) ∧ Below w.heap.size w w' := by
  obtain ⟨i0, hi, hz0, hz1, hz2⟩ := info_parts info34
  obtain ⟨N, hN⟩ : ∃ N, N = min 5 (s.size + 1) := ⟨_, rfl⟩
  have HSP := splitn_any s w N hN hs
  obtain ⟨R, hR⟩ : ∃ R, rp 5 (dl s) = R := ⟨_, rfl⟩
  rw [hR]
  have HR : Hid (rp 5 (dl s) = R) := hR
  have HN : Hid (N = min 5 (s.size + 1)) := hN
  clear hR hN
  go_enter Tryd.func5, Tryd.ntmps5
  go_wp2_with fail
  refine HSP.mono ?_
  rintro e w' ⟨ps, h1, h2, h3, rfl, rfl⟩
  clear HSP
  have hrp := rp_pieces s N HN.out ps h1
  rw [HR.out] at hrp
  clear HR h1 HN
  by_cases h4 : 4 < ps.length
  · rw [if_pos h4] at hrp
    subst hrp
    have h4' : (4 : Int) < (ps.length : Int) := by omega
    go_wp2
    go_ret2
    exact ⟨_, rfl, World.ownsRow_nil _ _ _ _, (Below.refl _ _).alloc (Nat.le_refl _) _⟩
  · rw [if_neg h4] at hrp
    have h4' : ¬ (4 : Int) < (ps.length : Int) := by omega
    have HRP : Hid (R = gp (ps.map dl)) := hrp
    clear hrp
    go_wp2_with (at_make; refine wpList_make_own _ rfl _ _ 22 rfl (w.heap.size + 1) 34 i0 _ 2 Tryd.underlying22 hi hz0 hz1 _ _ _ ps.length rfl rfl rfl (by rw [hz2]; omega) (by unfold maxLen; omega) (by simp) ?_; intro w1 hown1 hgrow1)
    have hbl1 : Below (w.heap.size + 1) (w.alloc (.cells (Lib.cellsOf ps N) 9)) w1 := (Below.refl _ _).grown hgrow1 (by simp) (fun k e => by cases e)
    clear hgrow1
    rw [show (w.alloc (.cells (Lib.cellsOf ps N) 9)).heap.size = w.heap.size + 1 from by simp] at hown1
    go_loopw [5, 20] (fun v i wr => ∃ (k : Nat) (rs : List (Int × Int)), k ≤ ps.length ∧ i = .int .i64 k ∧ v = .slice (some ⟨w.heap.size + 1, 0, none⟩) k ps.length ∧ rs.length = k ∧
        wr.ownsRow (w.heap.size + 1) 34 2 (.slice (some ⟨w.heap.size + 1, 0, none⟩) k ps.length) k (rc rs) ∧ Below (w.heap.size + 1) (w.alloc (.cells (Lib.cellsOf ps N) 9)) wr ∧ Hid (R = (gp ((ps.map dl).drop k)).map (rs ++ ·))) (fun _ i _ => ps.length - (intOf i).toNat)
    case atStart => exact ⟨0, [], Nat.zero_le _, rfl, rfl, rfl, hown1, hbl1, HRP.out.trans (mna _)⟩
    case round =>
      obtain ⟨k, rs, hk, rfl, rfl, hrl, hown, hbl, HK⟩ := hrel
      clear hown1 hbl1 HRP
      have hlt1 := hown.lt _ rfl
      have hB : Below w.heap.size w wr := ((Below.refl _ _).alloc (Nat.le_refl _) _).trans (hbl.mono (by omega))
      by_cases hlt : k < ps.length
      · have hc : wr.cell? ⟨w.heap.size, k, none⟩ = some (.string ps[k]) := (hbl.cell (p := ⟨w.heap.size, k, none⟩) (by show w.heap.size < w.heap.size + 1; omega)).trans (cell_piece w ps N k hlt h2)
        have hps : ps[k].size ≤ 140737488355328 := Nat.le_trans (h3 _ (List.getElem_mem hlt)) hs
        have hdrop : (ps.map dl).drop k = dl ps[k] :: (ps.map dl).drop (k + 1) := by
          rw [List.drop_eq_getElem_cons (by simpa using hlt)]; simp
        have hK := HK.out
        rw [hdrop] at hK
        have HPR := prule_any ps[k] wr hps
        cases hpr : pr (dl ps[k]) with
        | none =>
          rw [gp_fail _ _ hpr] at hK
          rw [hpr] at HPR
          simp only [Option.map_none] at hK
          subst hK
          clear hdrop HK hpr
          go_wp2_with (go_at_call 11; refine HPR.mono ?_; rintro e w2 ⟨rfl, hb2⟩)
          go_ret2
          exact ⟨_, rfl, World.ownsRow_nil _ _ _ _, (hB.trans (hb2.mono (by omega))).alloc (by have := hb2.size; omega) _⟩
        | some r =>
          obtain ⟨c, q⟩ := r
          rw [gp_step _ _ (c, q) hpr] at hK
          rw [hpr] at HPR
          have HKK : Hid _ := hK
          clear hdrop HK hpr hK
          go_wp2_with (first | (go_at_call 11; refine HPR.mono ?_; rintro e w2 ⟨rfl, hb2⟩) | (at_builtin; refine wpList_append_fits _ rfl (.tmp 31) (.tmp 33) 22 rfl (w.heap.size + 1) 34 i0 2 Tryd.underlying22 hi hz1 (w.heap.size + 1) k ps.length (rc rs) rfl (((own_below hown hb2).alloc _).alloc _) ⟨w2.heap.size + 1, 0, none⟩ 1 1 [.int .i64 c, .int .i64 q] rfl rfl ?c1 ?c2 (by omega) ?_))
          case c1 => intro j u hj; match j, hj with | 0, hj => simp at hj; subst hj; simp [Addr.add] | 1, hj => simp at hj; subst hj; simp [Addr.add]
          case c2 => intro u hu; simp at hu; rcases hu with rfl | rfl <;> rfl
          · intro w3 hown3 hgrow3
            have hb3 : Below (w.heap.size + 1) (w.alloc (.cells (Lib.cellsOf ps N) 9)) w3 := (((hbl.trans (hb2.mono (by omega))).alloc (by have := hb2.size; omega) _).alloc (by have := hb2.size; simp; omega) _).grown hgrow3 (by have := hb2.size; simp; omega) (fun j e => by cases e; omega)
            clear hgrow3 hb2 HPR hown hbl hB
            go_wp2
            go_roundw
            case rel => exact ⟨k + 1, rs ++ [(c, q)], by omega, by go_num, rfl, by simp [hrl], by rw [rc_app]; exact hown3, hb3, HKK.out.trans (mns _ _ _)⟩
            case measure => simp [intOf]; omega
      · have hke : k = ps.length := by omega
        have hK := HK.out
        rw [List.drop_eq_nil_of_le (by simp; omega)] at hK
        simp only [gp, Option.map_some, List.append_nil] at hK
        subst hK
        clear HK
        have hE : wr.ownsRow w.heap.size 34 2 (.slice (some ⟨w.heap.size + 1, 0, none⟩) k ps.length) rs.length (rc rs) := by
          rw [hrl]; exact own_base hown (by omega)
        clear hown hke hrl
        go_wp2
        go_ret2
        exact ⟨_, rfl, hE, hB⟩
end Go.Proofs.YtikbfhhkkplpbaaDoor
