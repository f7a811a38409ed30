/-
  The walks of tether/grid.countAbove (19), keepByRule (20).
-/
import Derived.Test.YtikbfhhkkplpbaaNew
namespace Go.Proofs.Ytikbfhhkkplpbaa
open Go.RowKit Pl

/-- Places as numbers. -/
def oz (o : List Nat) : List Int := o.map fun (i : Nat) => (i : Int)
theorem oz_len (o : List Nat) : (oz o).length = o.length := by simp [oz]
theorem oz_tm (o : List Nat) (k : Nat) (h : k < o.length) : tm (oz o) k = (o[k] : Int) := by simp [tm, oz, h]

theorem RowI.set {w : World} {ao : Option Addr} {zs : List Int} {cap g j : Nat} {u : Value} (h : RowI w ao zs cap) (hne : 0 < zs.length → ∀ b off, ao = some ⟨b, off, none⟩ → b ≠ g) : RowI (w.setCell ⟨g, j, none⟩ u) ao zs cap := by
  refine ⟨h.1, fun h0 => ?_⟩
  obtain ⟨b, off, e, hc⟩ := h.2 h0
  exact ⟨b, off, e, fun i hi => (World.cell?_setCell_other _ _ _ _ (by intro e'; simp only [Addr.mk.injEq] at e'; exact hne h0 b off e e'.1.symm)).trans (hc i hi)⟩

/-- How many places at the head have times above now. -/
def fut (now : Int) (zs : List Int) (o : List Nat) : Nat := (o.takeWhile fun p => decide (now < tm zs p)).length
theorem fut_le (now : Int) (zs : List Int) (o : List Nat) : fut now zs o ≤ o.length := (List.takeWhile_sublist _).length_le

set_option maxHeartbeats 1000000 in
theorem count_any (now : Int) (a1 a2 : Option Addr) (zs : List Int) (o : List Nat) (c1 c2 : Nat) (w : World) (h1 : RowI w a1 zs c1) (h2 : RowI w a2 (oz o) c2) (hz : zs.length ≤ 17592186044416) (ho : o.length ≤ 17592186044416) (hp : ∀ p ∈ o, p < zs.length) :
    Calls Try.prog 19 #[.int .i64 now, .slice a1 zs.length c1, .slice a2 o.length c2] w fun e w' => e = .returned (.int .i64 (fut now zs o : Nat)) ∧ w' = w := by
  obtain ⟨r, hr⟩ : ∃ r, fut now zs o = r := ⟨_, rfl⟩
  rw [hr]
  have HR : Hid (0 + fut now zs (o.drop 0) = r) := by show _ = _; rw [Nat.zero_add]; exact hr
  have HP : Hid _ := hp
  clear hr hp
  go_enter Try.func19, Try.ntmps19
  go_wp2
  go_loop [7] (fun i => ∃ k : Nat, k ≤ o.length ∧ i = .int .i64 k ∧ Hid (k + fut now zs (o.drop k) = r)) (fun i => o.length - (intOf i).toNat)
  case atStart => exact ⟨0, Nat.zero_le _, rfl, HR⟩
  case round =>
    obtain ⟨k, hk, rfl, HK⟩ := hrel
    clear HR
    by_cases hlt : k < o.length
    · obtain ⟨b2, off2, rfl, hc2⟩ := h2.2 (by rw [oz_len]; omega)
      have hpk : o[k] < zs.length := HP.out _ (List.getElem_mem hlt)
      obtain ⟨b1, off1, rfl, hc1⟩ := h1.2 (by omega)
      have d2 := hc2 k (by rw [oz_len]; exact hlt)
      rw [oz_tm o k hlt] at d2
      have d1 := hc1 o[k] hpk
      have H := HK.out
      rw [List.drop_eq_getElem_cons hlt] at H
      have l2 := h2.1
      rw [oz_len] at l2
      have l1 := h1.1
      obtain ⟨p, hpp⟩ : ∃ p, o[k] = p := ⟨_, rfl⟩
      rw [hpp] at d1 d2 hpk H
      obtain ⟨x, hx⟩ : ∃ x, tm zs p = x := ⟨_, rfl⟩
      rw [hx] at d1
      have hltz : (k : Int) < (o.length : Int) := by omega
      by_cases hgt : now < x
      · have e : fut now zs (p :: o.drop (k + 1)) = fut now zs (o.drop (k + 1)) + 1 := by simp [fut, hx, hgt]
        rw [e] at H
        have HH : Hid (k + 1 + fut now zs (o.drop (k + 1)) = r) := by show _ = _; rw [← H]; omega
        clear H HK hc1 hc2 h1 h2 hpp hx e
        go_wp2
        go_round
        case rel => exact ⟨k + 1, by omega, by go_num, HH⟩
        case measure => simp [intOf]; omega
      · have e : fut now zs (p :: o.drop (k + 1)) = 0 := by simp [fut, hx, hgt]
        rw [e, Nat.add_zero] at H
        subst H
        clear HK hc1 hc2 h1 h2 hpp hx e
        go_wp2
        go_ret
        exact ⟨rfl, rfl⟩
    · have H := HK.out
      rw [drop_nil o k hlt] at H
      simp only [fut, List.takeWhile_nil, List.length_nil, Nat.add_zero] at H
      subst H
      have hltz : ¬ (k : Int) < (o.length : Int) := by omega
      clear HK h1 h2
      go_wp2
      go_ret
      exact ⟨rfl, rfl⟩

/-- Which places are marked, as cells. -/
def bs (n : Nat) (S : List Nat) : List Value := (List.range n).map fun k => .bool (decide (k ∈ S))
theorem bs_len (n : Nat) (S : List Nat) : (bs n S).length = n := by simp [bs]
theorem bs_set (n p : Nat) (S : List Nat) : (bs n S).set p (.bool true) = bs n (S ++ [p]) := by
  apply List.ext_getElem
  · simp [bs]
  · intro i h1 h2
    simp only [bs, List.getElem_set, List.getElem_map, List.getElem_range]
    by_cases e : p = i
    · subst e; simp
    · rw [if_neg e]
      have : ¬ i = p := fun x => e x.symm
      simp [this]

theorem gb_trans {a b c : World} {row : Option Nat} (h : a.grownBy b row) (h' : b.grownBy c row) : a.grownBy c row :=
  ⟨h'.os.trans h.os, h'.tape.trans h.tape, h'.output.trans h.output, Nat.le_trans h.size h'.size, fun k hk hn => (h'.block k (Nat.lt_of_lt_of_le hk h.size) hn).trans (h.block k hk hn)⟩
theorem gb_drewN {a b : World} {row : Option Nat} (h : a.grownBy b row) (n : Nat) : a.grownBy (b.drewN n) row := ⟨h.os, h.tape, h.output, h.size, h.block⟩

set_option maxHeartbeats 2000000 in
theorem rule_any (now : Int) (a1 a2 : Option Addr) (zs : List Int) (o : List Nat) (c1 c2 g base : Nat) (c q : Int) (S : List Nat) (w : World) (h1 : RowI w a1 zs c1) (h2 : RowI w a2 (oz o) c2)
    (hown : w.ownsRow base 4 1 (.slice (some ⟨g, 0, none⟩) zs.length zs.length) zs.length (bs zs.length S))
    (n1 : 0 < zs.length → ∀ b off, a1 = some ⟨b, off, none⟩ → b ≠ g) (n2 : 0 < (oz o).length → ∀ b off, a2 = some ⟨b, off, none⟩ → b ≠ g)
    (hz : zs.length ≤ 17592186044416) (ho : o.length ≤ 17592186044416) (hp : ∀ p ∈ o, p < zs.length) (hnow : 0 ≤ now ∧ now ≤ 1073741824) (ht : ∀ p ∈ o, 0 ≤ tm zs p ∧ tm zs p ≤ now) (hc : 1 ≤ c ∧ c ≤ 20) (hq : 1 ≤ q ∧ q ≤ 1000000) :
    Calls Try.prog 20 #[.slice (some ⟨g, 0, none⟩) zs.length zs.length, .int .i64 now, .slice a1 zs.length c1, .slice a2 o.length c2, .agg #[.int .i64 c, .int .i64 q]] w fun e w' =>
      e = .returned (.tuple #[]) ∧ w'.ownsRow base 4 1 (.slice (some ⟨g, 0, none⟩) zs.length zs.length) zs.length (bs zs.length (S ++ rm (st now zs q) c o (-1))) ∧ w.grownBy w' (some g) := by
  obtain ⟨R, hR⟩ : ∃ R, S ++ rm (st now zs q) c o (-1) = R := ⟨_, rfl⟩
  rw [hR]
  have HR : Hid (S ++ rm (st now zs q) c (o.drop 0) (-1) = R) := hR
  have HP : Hid _ := hp
  have HT : Hid _ := ht
  have hgl := (hown.lt g rfl).2
  have N1 : Hid _ := n1
  have N2 : Hid _ := n2
  have H1 : Hid (RowI w a1 zs c1) := h1
  have H2 : Hid (RowI w a2 (oz o) c2) := h2
  clear hR hp ht n1 n2 h1 h2
  obtain ⟨hc0, hc20⟩ := hc
  obtain ⟨hq0, hq6⟩ := hq
  obtain ⟨hn0, hn30⟩ := hnow
  go_enter Try.func20, Try.ntmps20
  go_wp2
  go_loopw [10, 16] (fun sn i wr => ∃ (k : Nat) (seen : Int) (S' : List Nat), k ≤ o.length ∧ i = .int .i64 k ∧ sn = .int .i64 seen ∧ -1 ≤ seen ∧ seen ≤ 1073741824 ∧ wr.ownsRow base 4 1 (.slice (some ⟨g, 0, none⟩) zs.length zs.length) zs.length (bs zs.length S') ∧
      Hid (RowI wr a1 zs c1) ∧ Hid (RowI wr a2 (oz o) c2) ∧ wr.cell? ⟨w.heap.size, 0, none⟩ = some (.int .i64 c) ∧ wr.cell? ⟨w.heap.size, 1, none⟩ = some (.int .i64 q) ∧ w.grownBy wr (some g) ∧ Hid (S' ++ rm (st now zs q) c (o.drop k) seen = R)) (fun _ i _ => o.length - (intOf i).toNat)
  case atStart => exact ⟨0, -1, S, Nat.zero_le _, rfl, rfl, by omega, by omega, hown.alloc _, H1.out.below ((Below.refl _ _).alloc (Nat.le_refl _) _), H2.out.below ((Below.refl _ _).alloc (Nat.le_refl _) _), by simp, by simp, World.grownBy_alloc _ _ _, HR⟩
  case round =>
    obtain ⟨k, seen, S', hk, rfl, rfl, hs1, hs2, hown', R1, R2, b0, b1, hgr, HK⟩ := hrel
    clear HR hown H1 H2
    by_cases hlt : k < o.length
    · obtain ⟨bb2, off2, hb2, hc2⟩ := R2.out.2 (by rw [oz_len]; omega)
      have hpk : o[k] < zs.length := HP.out _ (List.getElem_mem hlt)
      have htk := HT.out _ (List.getElem_mem hlt)
      obtain ⟨bb1, off1, hb1, hc1⟩ := R1.out.2 (by omega)
      subst hb1
      subst hb2
      have e2 := hc2 k (by rw [oz_len]; exact hlt)
      rw [oz_tm o k hlt] at e2
      have e1 := hc1 o[k] hpk
      have H := HK.out
      rw [List.drop_eq_getElem_cons hlt] at H
      have l2 := R2.out.1
      rw [oz_len] at l2
      have l1 := R1.out.1
      obtain ⟨p, hpp⟩ : ∃ p, o[k] = p := ⟨_, rfl⟩
      rw [hpp] at e1 e2 hpk H htk
      obtain ⟨x, hx⟩ : ∃ x, tm zs p = x := ⟨_, rfl⟩
      rw [hx] at e1 htk
      obtain ⟨ht0, ht1⟩ := htk
      unfold rm at H
      have hst : st now zs q p = (now - x) / q := by rw [st, hx]
      rw [hst] at H
      have hd0 : 0 ≤ (now - x) / q := Int.ediv_nonneg (by omega) (by omega)
      have hd1 : (now - x) / q ≤ now - x := Int.ediv_le_self _ (by omega)
      have e1' : ∀ m, (wr.drewN m).cell? ⟨bb1, off1 + p, none⟩ = some (.int .i64 x) := fun m => e1
      have b0' : ∀ m, (wr.drewN m).cell? ⟨w.heap.size, 0, none⟩ = some (.int .i64 c) := fun m => b0
      have b1' : ∀ m, (wr.drewN m).cell? ⟨w.heap.size, 1, none⟩ = some (.int .i64 q) := fun m => b1
      have hfr : wr.frozen? ⟨g, p, none⟩ = false := hown'.frozenAt _
      obtain ⟨u, hu⟩ : ∃ u, wr.cell? ⟨g, p, none⟩ = some u := by rw [hown'.cellAt p (by omega)]; exact ⟨_, List.getElem?_eq_getElem (by rw [bs_len]; exact hpk)⟩
      clear hc1 hc2 hpp hx hst HK
      by_cases hst : c ≤ (now - x) / q
      · rw [if_pos hst, List.append_nil] at H
        subst H
        clear R1 R2
        go_wp2
        go_quiet (fail)
        go_wp2
        exact bodyPost_ret (v := .tuple #[]) (by simp [results, Try.results20, go_sem]) rfl ⟨rfl, hown', gb_drewN hgr _⟩
      · rw [if_neg hst] at H
        by_cases hse : (now - x) / q = seen
        · rw [if_pos hse] at H
          have HH : Hid _ := H
          have hsb : ((now - x) / q != seen) = false := by simpa using hse
          have G1 : Hid (∀ m, RowI (wr.drewN m) (some ⟨bb1, off1, none⟩) zs c1 ∧ RowI (wr.drewN m) (some ⟨bb2, off2, none⟩) (oz o) c2 ∧ w.grownBy (wr.drewN m) (some g)) := fun m => ⟨R1.out, R2.out, gb_drewN hgr m⟩
          clear H R1 R2 hse
          go_wp2
          go_quiet (fail)
          go_wp2
          go_roundw
          case rel => exact ⟨k + 1, seen, S', by omega, by go_num, rfl, hs1, hs2, hown', (G1.out nq).1, (G1.out nq).2.1, b0, b1, (G1.out nq).2.2, HH⟩
          case measure => simp [intOf]; omega
        · rw [if_neg hse] at H
          have HH : Hid (S' ++ [p] ++ rm (st now zs q) c (List.drop (k + 1) o) ((now - x) / q) = R) := by show _ = _; rw [← H]; simp
          have hsb : ((now - x) / q != seen) = true := by simpa using hse
          have hstd := hown'.stored p (.bool true)
          rw [bs_set] at hstd
          have G1 : Hid (∀ m, RowI ((wr.drewN m).setCell ⟨g, p, none⟩ (.bool true)) (some ⟨bb1, off1, none⟩) zs c1 ∧ RowI ((wr.drewN m).setCell ⟨g, p, none⟩ (.bool true)) (some ⟨bb2, off2, none⟩) (oz o) c2 ∧ w.grownBy ((wr.drewN m).setCell ⟨g, p, none⟩ (.bool true)) (some g) ∧
              ((wr.drewN m).setCell ⟨g, p, none⟩ (.bool true)).ownsRow base 4 1 (.slice (some ⟨g, 0, none⟩) zs.length zs.length) zs.length (bs zs.length (S' ++ [p])) ∧
              ((wr.drewN m).setCell ⟨g, p, none⟩ (.bool true)).cell? ⟨w.heap.size, 0, none⟩ = some (.int .i64 c) ∧ ((wr.drewN m).setCell ⟨g, p, none⟩ (.bool true)).cell? ⟨w.heap.size, 1, none⟩ = some (.int .i64 q)) := fun m =>
            ⟨RowI.set (w := wr.drewN m) R1.out N1.out, RowI.set (w := wr.drewN m) R2.out N2.out, gb_trans hgr (gb_drewN hstd.2 m), hstd.1,
              (World.cell?_setCell_other _ _ _ _ (by intro e'; simp only [Addr.mk.injEq] at e'; omega)).trans b0, (World.cell?_setCell_other _ _ _ _ (by intro e'; simp only [Addr.mk.injEq] at e'; omega)).trans b1⟩
          clear H R1 R2 hse hstd N1 N2 hown' hgr
          go_wp2
          go_quiet (fail)
          go_wp2
          go_roundw
          case rel => exact ⟨k + 1, (now - x) / q, S' ++ [p], by omega, by go_num, rfl, by omega, by omega, (G1.out nq).2.2.2.1, (G1.out nq).1, (G1.out nq).2.1, (G1.out nq).2.2.2.2.1, (G1.out nq).2.2.2.2.2, (G1.out nq).2.2.1, HH⟩
          case measure => simp [intOf]; omega
    · have H := HK.out
      rw [drop_nil o k hlt] at H
      simp only [rm, List.append_nil] at H
      subst H
      clear HK R1 R2
      go_wp2
      go_end0
      exact ⟨rfl, hown', hgr⟩
end Go.Proofs.Ytikbfhhkkplpbaa
