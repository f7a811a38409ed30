/-
  The walk of tether/tetherlaw.turns (8).
-/
import Derived.Test.YtikbfhhkkplpbaaSmall
namespace Go.Proofs.Ytikbfhhkkplpbaa
open Go.RowKit Pl

/-- An append to a row of one's own, said so that the rows that share its head are seen to stay. -/
theorem wpList_append_keep {P : Program} (w : World) {ops : Array Oper} {rest : List Oper} {o : Oper} {a : Act} {Q : Exit → Act → World → Prop}
    (hg : o.guard = none) (s x : Operand) (t : TypeId) (hop : o.op = Op.call { callee := Callee.builtin Builtin.append, args := #[s, x], argTypes := #[t, t] })
    (base : Nat) (e : TypeId) (i : TypeInfo) (z : Value) (size bytes : Nat) (h1 : P.underlying t = some (.slice e)) (h2 : P.info? e = some i) (h3 : i.zero = some z) (h4 : i.size = size) (h5 : i.bytes = bytes) (h6 : z.cells.size = size) (h7 : 0 < size)
    (v : Value) (n : Nat) (xs : List Value) (hs : a.eval s = v) (hown : w.ownsRow base e size v n xs) (ad : Addr) (m c : Nat) (news : List Value) (hx : a.eval x = .slice (some ad) m c) (hn : news.length = m * size)
    (hc : ∀ j u, news[j]? = some u → w.cell? (ad.add j) = some u) (h1c : ∀ u ∈ news, u.oneCell' = true) (b1 : n + m ≤ maxLen) (b2 : (n + m) * bytes ≤ 140737488355328) (hbase : base ≤ w.heap.size) (hm : 0 < m)
    (hK : ∀ v' w', w'.ownsRow base e size v' (n + m) (xs ++ news) → w.grownBy w' v.ownBlock → ((∃ g cap, v = .slice (some ⟨g, 0, none⟩) n cap ∧ v' = .slice (some ⟨g, 0, none⟩) (n + m) cap) ∨ (w.grownBy w' none ∧ w'.ownsRow w.heap.size e size v' (n + m) (xs ++ news))) → wpList P ops Q rest (a.put o.dst v') w') :
    wpList P ops Q (o :: rest) a w := by
  rcases hown.2 with ⟨rfl, rfl⟩ | ⟨g, cap, cur, rfl, hb, hgg, hnc, hcm, hcs, htk⟩
  · have hxs : xs = [] := List.eq_nil_of_length_eq_zero (by simpa using hown.1)
    subst hxs
    refine wpList_append_grows w hg s x t hop e i z size bytes h1 h2 h3 h4 h5 h6 h7 none 0 0 [] hs (fun _ => ⟨rfl, rfl⟩) (by simp) (fun b hb => by cases hb) ad m c news hx hn hc h1c ?_ b1 b2 ?_
    · omega
    · intro v' w' h8 h9
      exact hK v' w' (own_base h8 hbase) ⟨h9.os, h9.tape, h9.output, h9.size, fun k hk _ => h9.block k hk (by simp)⟩ (Or.inr ⟨h9, h8⟩)
  · by_cases hr : n + m ≤ cap
    · refine wpList_append_fits w hg s x t hop base e i size h1 h2 h4 g n cap xs hs hown ad m c news hx hn hc h1c hr ?_
      intro w' h8 h9
      exact hK _ w' h8 h9 (Or.inl ⟨g, cap, rfl, rfl⟩)
    · refine wpList_append_grows w hg s x t hop e i z size bytes h1 h2 h3 h4 h5 h6 h7 _ n cap xs hs (fun e => by cases e) hown.1 (fun b hb j u hj => by cases hb; exact hown.cells rfl j u hj) ad m c news hx hn hc h1c (by omega) b1 b2 ?_
      intro v' w' h8 h9
      exact hK v' w' (own_base h8 hbase) ⟨h9.os, h9.tape, h9.output, h9.size, fun k hk _ => h9.block k hk (by simp)⟩ (Or.inr ⟨h9, h8⟩)

/-- A row whose cells are the head of another's stays through such an append to that other. -/
theorem own_prefix {w w' : World} {base b : Nat} {e : TypeId} {size : Nat} {v v' u : Value} {n m k : Nat} {xs news ys : List Value} (hsz : 0 < size) (hv : w.ownsRow base e size v n xs) (hu : w.ownsRow b e size u k ys) (hk : k ≤ n) (hy : xs.take (k * size) = ys)
    (hv' : w'.ownsRow base e size v' (n + m) (xs ++ news)) (hg : w.grownBy w' v.ownBlock)
    (hh : (∃ g cap, v = .slice (some ⟨g, 0, none⟩) n cap ∧ v' = .slice (some ⟨g, 0, none⟩) (n + m) cap) ∨ w.grownBy w' none) : w'.ownsRow b e size u k ys := by
  rcases hh with ⟨g, cap, rfl, rfl⟩ | hh
  · rcases hu.2 with ⟨rfl, rfl⟩ | ⟨g', cap', cur', rfl, hb', hg', hnc', hcm', hcs', htk'⟩
    · exact ⟨hu.1, Or.inl ⟨rfl, rfl⟩⟩
    · by_cases hgg : g' = g
      · subst hgg
        refine ⟨hu.1, Or.inr ?_⟩
        rcases hv.2 with ⟨h, _⟩ | ⟨g1, cap1, cur1, h, _, hg1, _, _, hcs1, _⟩
        · simp at h
        · simp only [Value.slice.injEq, Option.some.injEq, Addr.mk.injEq, and_true, true_and] at h
          obtain ⟨rfl, rfl⟩ := h
          rcases hv'.2 with ⟨h, _⟩ | ⟨g2, cap2, cur2, h, _, hg2, _, _, hcs2, htk2⟩
          · simp at h
          · simp only [Value.slice.injEq, Option.some.injEq, Addr.mk.injEq, and_true, true_and] at h
            obtain ⟨rfl, rfl⟩ := h
            rw [hg'] at hg1
            simp at hg1
            subst hg1
            have hcc : cap' = cap := Nat.eq_of_mul_eq_mul_right hsz (hcs'.symm.trans hcs1)
            subst hcc
            refine ⟨g', cap', cur2, rfl, hb', hg2, hnc', hcm', hcs2, ?_⟩
            have hle : k * size ≤ (n + m) * size := Nat.mul_le_mul_right _ (by omega)
            have : (cur2.toList.take ((n + m) * size)).take (k * size) = ys := by
              rw [htk2, List.take_append_of_le_length (by rw [hv.1]; exact Nat.mul_le_mul_right _ hk), hy]
            rwa [List.take_take, Nat.min_eq_left hle] at this
      · exact hu.kept hg (Or.inr (by simp [Value.ownBlock]; exact hgg))
  · exact hu.kept hh (by cases hv : u.ownBlock <;> simp)

theorem gb_wide {w wr w1 : World} {row r1 : Option Nat} (h : w.grownBy wr row) (h1 : wr.grownBy w1 r1) (hr : r1 = row ∨ ∀ b, r1 = some b → w.heap.size ≤ b) : w.grownBy w1 row :=
  ⟨h1.os.trans h.os, h1.tape.trans h.tape, h1.output.trans h.output, Nat.le_trans h.size h1.size, fun k hk hn => (h1.block k (Nat.lt_of_lt_of_le hk h.size) (by
    rcases hr with rfl | hr
    · exact hn
    · intro e; have := hr k e.symm; omega)).trans (h.block k hk hn)⟩

/-- The turned list, with j true ones behind it. -/
def tl (bl : List Bool) (j : Nat) : List Value := bc (bl.map not ++ List.replicate j true)
theorem tl_len (bl : List Bool) (j : Nat) : (tl bl j).length = bl.length + j := by simp [tl, bc]
theorem tl_next (bl : List Bool) (j : Nat) : tl bl (j + 1) = tl bl j ++ [.bool true] := by
  simp [tl, bc, List.replicate_succ', ← List.append_assoc]
theorem tl_take (bl : List Bool) (j : Nat) : (tl bl j).take (bl.length * 1) = tl bl 0 := by simp [tl, bc]

def mixb (bl : List Bool) (k : Nat) : List Value := bc ((bl.take k).map not ++ bl.drop k)
theorem mixb_len (bl : List Bool) (k : Nat) (h : k ≤ bl.length) : (mixb bl k).length = bl.length := by simp [mixb, bc]; omega
theorem mixb_get (bl : List Bool) (k : Nat) (h : k < bl.length) : (mixb bl k)[k]? = some (.bool bl[k]) := by
  have e : ((bl.take k).map not ++ bl.drop k)[k]? = some bl[k] := by
    rw [List.getElem?_append_right (by simp; omega)]
    simp [h, Nat.min_eq_left (Nat.le_of_lt h)]
  simp only [mixb, bc, List.getElem?_map, e, Option.map_some]
theorem mixb_set (bl : List Bool) (k : Nat) (h : k < bl.length) : (mixb bl k).set k (.bool (!bl[k])) = mixb bl (k + 1) := by
  unfold mixb bc
  rw [← List.map_set]
  congr 1
  rw [List.set_append_right _ _ (by simp; omega), List.length_map, List.length_take, Nat.min_eq_left (Nat.le_of_lt h), Nat.sub_self, List.drop_eq_getElem_cons h, List.set_cons_zero, List.take_succ_eq_append_getElem h, List.map_append, List.append_assoc]
  rfl

set_option maxHeartbeats 1000000 in
theorem turns_any (x : Value) (bl : List Bool) (base : Nat) (w : World) (hx : w.ownsRow base 4 1 x bl.length (bc bl)) (hbase : base ≤ w.heap.size) (hl : bl.length ≤ 17592186044416) :
    Calls Try.prog 8 #[x] w fun e w' => ∃ v, e = .returned v ∧ w'.ownsRow base 4 1 v (bl.length + 3) (tl bl 3) ∧ w'.ownsRow base 4 1 x bl.length (tl bl 0) ∧ w.grownBy w' x.ownBlock := by
  obtain ⟨i0, hi, hz0, hz1, hz2⟩ := info_parts info4
  obtain ⟨ao, cap, rfl⟩ := own_shape hx
  go_enter Try.func8, Try.ntmps8
  go_wp2
  go_loopw [3] (fun i wr => ∃ k : Nat, k ≤ bl.length ∧ i = .int .i64 k ∧ wr.ownsRow base 4 1 (.slice ao bl.length cap) bl.length (mixb bl k) ∧ w.grownBy wr (Value.slice ao bl.length cap).ownBlock) (fun i _ => bl.length - (intOf i).toNat)
  case atStart => exact ⟨0, Nat.zero_le _, rfl, by simpa [mixb] using hx, World.grownBy.refl _ _⟩
  case round =>
    obtain ⟨k, hk, rfl, hown, hgr⟩ := hrel
    by_cases hlt : k < bl.length
    · obtain ⟨g, cap', hv, hcap, hcell⟩ := own_at hown (by omega)
      simp only [Value.slice.injEq, true_and] at hv
      obtain ⟨rfl, rfl⟩ := hv
      have d1 : wr.cell? ⟨g, k, none⟩ = some (.bool bl[k]) := hcell _ _ (mixb_get bl k hlt)
      have f1 : wr.frozen? ⟨g, k, none⟩ = false := hown.frozenAt _
      have s1 := hown.stored k (.bool (!bl[k]))
      rw [mixb_set bl k hlt] at s1
      have hE := s1.1
      have hG := gb_trans hgr s1.2
      clear hown hgr s1 hx hcell
      go_wp2
      go_roundw
      case rel => exact ⟨k + 1, by omega, by go_num, hE, hG⟩
      case measure => simp [intOf]; omega
    · have hke : k = bl.length := by omega
      have hown1 : wr.ownsRow base 4 1 (.slice ao bl.length cap) bl.length (tl bl 0) := by
        rw [hke] at hown; simpa [mixb, tl] using hown
      obtain ⟨row, hrow⟩ : ∃ row, (Value.slice ao bl.length cap).ownBlock = row := ⟨_, rfl⟩
      have HROW : Hid ((Value.slice ao bl.length cap).ownBlock = row) := hrow
      have HI : Hid (wr.ownsRow base 4 1 (.slice ao bl.length cap) (bl.length + 0) (tl bl 0) ∧ wr.ownsRow base 4 1 (.slice ao bl.length cap) bl.length (tl bl 0) ∧ w.grownBy wr row ∧ ((Value.slice ao bl.length cap).ownBlock = row ∨ ∀ b, (Value.slice ao bl.length cap).ownBlock = some b → w.heap.size ≤ b)) := ⟨hown1, hown1, by rw [← hrow]; exact hgr, Or.inl hrow⟩
      clear hown hown1 hgr hke hx hrow
      go_wp2
      go_loopw [4, 5] (fun vg i wr => ∃ j : Nat, j ≤ 3 ∧ i = .int .i64 j ∧ Hid (wr.ownsRow base 4 1 vg (bl.length + j) (tl bl j) ∧ wr.ownsRow base 4 1 (.slice ao bl.length cap) bl.length (tl bl 0) ∧ w.grownBy wr row ∧ (vg.ownBlock = row ∨ ∀ b, vg.ownBlock = some b → w.heap.size ≤ b))) (fun _ i _ => 3 - (intOf i).toNat)
      case atStart => exact ⟨0, by omega, rfl, HI⟩
      case round =>
        obtain ⟨j, hj3, rfl, HJ⟩ := hrel
        clear HI
        by_cases hlt3 : j < 3
        · have hsz : w.heap.size ≤ wr.heap.size := HJ.out.2.2.1.size
          go_wp2_with (at_builtin; refine wpList_append_keep _ rfl (.tmp 25) (.tmp 26) 26 rfl base 4 i0 _ 1 1 Try.underlying26 hi hz0 hz1 hz2 rfl (by decide) u4 (bl.length + j) (tl bl j) rfl (HJ.out.1.alloc _) ⟨wr.heap.size, 0, none⟩ 1 1 [.bool true] rfl rfl (cells_one _ _ _) (bool_one _) (by unfold maxLen; omega) (by omega) (by simp; omega) (by decide) ?_)
          intro v1 w1 hv1 hg1 hh1
          have S1 : Hid (w1.ownsRow base 4 1 v1 (bl.length + (j + 1)) (tl bl (j + 1)) ∧ w1.ownsRow base 4 1 (.slice ao bl.length cap) bl.length (tl bl 0) ∧ w.grownBy w1 row ∧ (v1.ownBlock = row ∨ ∀ b, v1.ownBlock = some b → w.heap.size ≤ b)) := by
            obtain ⟨h1, h2, h3, h4⟩ := HJ.out
            refine ⟨by rw [tl_next]; exact hv1, own_prefix (by decide) (h1.alloc _) (h2.alloc _) (by omega) (tl_take bl j) hv1 hg1 (hh1.elim Or.inl fun x => Or.inr x.1), gb_wide (gb_trans h3 (World.grownBy_alloc _ _ _)) hg1 h4, ?_⟩
            rcases hh1 with ⟨g, cp, e1, e2⟩ | ⟨_, hh⟩
            · rw [e1] at h4
              rw [e2]
              exact h4
            · right
              intro b hb
              have := (hh.lt b hb).1
              omega
          clear hv1 hg1 hh1 HJ
          go_wp2
          go_roundw
          case rel => exact ⟨j + 1, by omega, by go_num, S1⟩
          case measure => simp [intOf]; omega
        · have hj3' : j = 3 := by omega
          have HE : Hid (∃ v, Ending.returned u4 = .returned v ∧ wr.ownsRow base 4 1 v (bl.length + 3) (tl bl 3) ∧ wr.ownsRow base 4 1 (.slice ao bl.length cap) bl.length (tl bl 0) ∧ w.grownBy wr (Value.slice ao bl.length cap).ownBlock) := by
            have h := HJ.out
            rw [hj3'] at h
            exact ⟨u4, rfl, h.1, h.2.1, by rw [HROW.out]; exact h.2.2.1⟩
          obtain ⟨a6, c6, hs6⟩ := own_shape HJ.out.1
          subst hs6
          clear hj3' HJ
          go_wp2
          go_ret
          exact HE.out
end Go.Proofs.Ytikbfhhkkplpbaa
