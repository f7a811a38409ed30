import Derived.Test.YthdhegmlknpllabGreatDoorM02
import Derived.Test.YthdhegmlknpllabGreatDoorM03
import Derived.Deep.RegionHeld3
import Derived.Test.YthdhegmlknpllabGreatDoorM05
import Derived.Lib.OwnBridge
import Derived.Lib.AppendIntMem
/-
  The walk of the comparison, tether/grid.newestFirst$1 (22).
-/
namespace Go.Proofs.YthdhegmlknpllabGreatDoor.Kp
open Go.RowKit Pl Go.Sort

set_option maxHeartbeats 400000 in
theorem clo_any (bx b off n cap x y : Nat) (tx ty : Int) (w : World) (hbox : w.cell? ⟨bx, 0, none⟩ = some (.slice (some ⟨b, off, none⟩) n cap)) (hx : x < n) (hy : y < n) (_hn : n ≤ cap)
    (cx : w.cell? ⟨b, off + x, none⟩ = some (.int .i64 tx)) (cy : w.cell? ⟨b, off + y, none⟩ = some (.int .i64 ty)) :
    Calls Tryz.prog 128 #[.int .i64 x, .int .i64 y, .pointer (some ⟨bx, 0, none⟩)] w fun e w' => e = .returned (.int .i64 (orI (cmpI ty tx) (cmpI y x))) ∧ ∃ q, w' = (w.alloc (.cells #[.int .i64 (cmpI ty tx), .int .i64 (cmpI y x)] 3)).drewN q := by
  have lb := World.block_lt_of_cell? _ _ hbox
  have lx := World.block_lt_of_cell? _ _ cx
  have H1 : ∀ w, _ := fun w => compare_any ty tx w
  have H2 : ∀ w, _ := fun w => compare_any y x w
  obtain ⟨p, hp⟩ : ∃ p, cmpI ty tx = p := ⟨_, rfl⟩
  obtain ⟨q, hq⟩ : ∃ q, cmpI y x = q := ⟨_, rfl⟩
  rw [hp] at H1
  rw [hq] at H2
  rw [hp, hq]
  clear hp hq
  have HH1 : Hid _ := H1
  have HH2 : Hid _ := H2
  clear H1 H2
  go_enter Tryz.func128, Tryz.ntmps128
  go_wp2
  go_region_held3 (fun w' => w'.cell? ⟨bx, 0, none⟩ = some (.slice (some ⟨b, off, none⟩) n cap) ∧ w'.cell? ⟨b, off + x, none⟩ = some (.int .i64 tx) ∧ w'.cell? ⟨b, off + y, none⟩ = some (.int .i64 ty)) (go_keep)
    (first | (go_at_call_of 130 (Value.int .i64 ty); refine (HH1.out _).mono ?_; rintro e w' ⟨rfl, rfl⟩) | (go_at_call_of 130 (Value.int .i64 (y : Int)); refine (HH2.out _).mono ?_; rintro e w' ⟨rfl, rfl⟩) | (go_at_call 129; refine (or_any p q _ _ (by simp) (by simp)).mono ?_; rintro e w' ⟨rfl, rfl⟩))
  all_goals go_wp2
  all_goals go_ret
  all_goals exact ⟨rfl, 1, rfl⟩
end Go.Proofs.YthdhegmlknpllabGreatDoor.Kp
/-
  The walk of tether/grid.newestFirst (18).
-/
namespace Go.Proofs.YthdhegmlknpllabGreatDoor.Kp
open Go.RowKit Pl Go.Sort Go.Lib Go.Shelf

theorem info3 : (Tryz.prog.info? 3).map (fun i => (i.zero, i.size, i.bytes)) = some (some (.int .i64 0), 1, 8) := by kernel_rfl

def encN (n : Nat) (i : Fin n) : Value := .int .i64 (i.val : Int)
def cfN (zs : List Int) (x y : Fin zs.length) : Int := orI (cmpI (tm zs y) (tm zs x)) (cmpI (y.val : Int) (x.val : Int))

theorem ltN (zs : List Int) (x y : Fin zs.length) : ltOf (cfN zs) x y = nw zs x y := by
  unfold ltOf cfN orI cmpI nw
  by_cases h1 : tm zs y < tm zs x
  · simp [h1]
  · by_cases h2 : tm zs x < tm zs y
    · have h3 : ¬ tm zs x = tm zs y := by omega
      simp [h1, h2, h3]
    · have h3 : tm zs x = tm zs y := by omega
      by_cases h4 : y.val < x.val
      · have h5 : (y.val : Int) < x.val := by omega
        simp [h3, h4, h5]
      · have h5 : ¬ (y.val : Int) < x.val := by omega
        by_cases h6 : (x.val : Int) < y.val
        · simp [h3, h4, h5, h6]
        · simp [h3, h4, h5, h6]

theorem swoN (zs : List Int) : SWO (ltOf (cfN zs)) where
  irrefl x := by rw [ltN]; exact nw_irr zs x
  trans x y z h1 h2 := by rw [ltN] at *; exact nw_trans zs x y z h1 h2
  ntrans x y z h1 h2 := by
    rw [ltN] at *
    simp only [nw, Bool.or_eq_false_iff, Bool.and_eq_false_iff, decide_eq_false_iff_not] at h1 h2 ⊢
    omega
theorem totN (zs : List Int) (x y : Fin zs.length) (h1 : ltOf (cfN zs) x y = false) (h2 : ltOf (cfN zs) y x = false) : x = y := by
  rw [ltN] at *
  apply Fin.ext
  by_cases h : x.val = y.val
  · exact h
  · rcases nw_total zs x y h with e | e
    · rw [h1] at e; cases e
    · rw [h2] at e; cases e

/-- The places, sorted. -/
def srt (zs : List Int) : List (Fin zs.length) := (List.finRange zs.length).mergeSort fun x y => !ltOf (cfN zs) y x
def ordN (zs : List Int) : List Nat := (srt zs).map (·.val)

theorem fin_range (n : Nat) : (List.finRange n).map (·.val) = List.range n := by
  apply List.ext_getElem
  · simp
  · intro i h1 h2; simp
theorem srt_len (zs : List Int) : (srt zs).length = zs.length := by simp [srt]

theorem ordN_ord (zs : List Int) : Ord zs (ordN zs) := by
  have hp : (srt zs).Perm (List.finRange zs.length) := List.mergeSort_perm _ _
  have hperm : (ordN zs).Perm (List.range zs.length) := by
    rw [← fin_range]
    exact hp.map _
  refine ⟨hperm, ?_⟩
  have hs : (srt zs).Pairwise fun x y => (!ltOf (cfN zs) y x) = true := by
    apply List.pairwise_mergeSort
    · intro a b c h1 h2
      simp only [Bool.not_eq_true'] at h1 h2 ⊢
      exact (swoN zs).ntrans c b a h2 h1
    · intro a b
      cases h : ltOf (cfN zs) b a with
      | false => simp
      | true =>
        have : ltOf (cfN zs) a b = false := by rw [ltN] at h ⊢; exact nw_asymm zs b a h
        simp [this]
  have hnd : (srt zs).Pairwise (· ≠ ·) := by
    have : (ordN zs).Nodup := hperm.nodup_iff.2 List.nodup_range
    exact (List.pairwise_map.1 this).imp fun {a b} h e => h (by rw [e])
  rw [ordN, List.pairwise_map]
  refine (hs.and hnd).imp fun {a b} h => ?_
  have h1 : ltOf (cfN zs) b a = false := by simpa using h.1
  rw [ltN] at h1
  have : a.val ≠ b.val := fun e => h.2 (Fin.ext e)
  rcases nw_total zs a b this with x | x
  · exact x
  · rw [h1] at x; cases x

def ini (n k : Nat) : List Value := (List.range n).map fun i => if i < k then .int .i64 (i : Int) else .int .i64 0
theorem ini_len (n k : Nat) : (ini n k).length = n := by simp [ini]
theorem ini_set (n k : Nat) : (ini n k).set k (.int .i64 (k : Int)) = ini n (k + 1) := by
  apply List.ext_getElem
  · simp [ini]
  · intro i h1 h2
    simp only [ini, List.getElem_set, List.getElem_map, List.getElem_range]
    by_cases e : k = i
    · subst e; simp
    · rw [if_neg e]
      by_cases h : i < k
      · rw [if_pos h, if_pos (by omega)]
      · rw [if_neg h, if_neg (by omega)]
theorem ini_zero (n : Nat) : (madeCells (Value.int .i64 0).cells (n * 1)).toList = ini n 0 := by
  apply List.ext_getElem
  · simp [madeCells, ini]
  · intro i h1 h2
    simp [madeCells, ini, Value.cells, Nat.mod_one]
theorem ini_full (n : Nat) : ini n n = (List.finRange n).map (encN n) := by
  apply List.ext_getElem
  · simp [ini]
  · intro i h1 h2
    have : i < n := by simpa [ini] using h1
    simp [ini, encN, this]

def encO (o : List Nat) : List Value := o.map fun (i : Nat) => .int .i64 (i : Int)
theorem encO_srt (zs : List Int) : (srt zs).map (encN zs.length) = encO (ordN zs) := by
  simp [encO, ordN, encN, Function.comp_def]

/-- The comparison's contract in every world that the sort passes through. -/
theorem lays (zs : List Int) [Inhabited (Fin zs.length)] (ao : Option Addr) (cap bx g : Nat) (W : World) (hW : RowI W ao zs cap) (hbx : W.cell? ⟨bx, 0, none⟩ = some (.slice ao zs.length cap)) (hg : bx ≠ g) (hne : ∀ b off, ao = some ⟨b, off, none⟩ → b ≠ g) :
    CmpLays1 Tryz.prog 128 #[.pointer (some ⟨bx, 0, none⟩)] (encN zs.length) (cfN zs) g 0 zs.length W := by
  intro m os dk _ x y
  have hn : 0 < zs.length := Nat.lt_of_le_of_lt (Nat.zero_le _) x.2
  obtain ⟨b, off, rfl, hc⟩ := hW.2 hn
  have old : ∀ a : Addr, a.block ≠ g → ∀ v, W.cell? a = some v → (sortWorld (encN zs.length) W g 0 m dk os).cell? a = some v := fun a ha v hv => by
    unfold sortWorld
    have hl := World.block_lt_of_cell? _ _ hv
    rw [cell?_grow _ _ _ (by rw [size_putRow]; exact hl), cell?_putRow_other _ _ _ _ _ _ (Or.inl ha)]
    exact hv
  have hcl := clo_any bx b off zs.length cap x.val y.val (tm zs x) (tm zs y) (sortWorld (encN zs.length) W g 0 m dk os)
    (old _ hg _ hbx) x.2 y.2 hW.1 (old _ (hne b off rfl) _ (hc x.val x.2)) (old _ (hne b off rfl) _ (hc y.val y.2))
  refine hcl.mono fun e w' ⟨he, q, hq⟩ => ⟨he, q, #[.cells #[.int .i64 (cmpI (tm zs y) (tm zs x)), .int .i64 (cmpI (y.val : Int) (x.val : Int))] 3], ?_⟩
  rw [hq, alloc_eq_grow]
  rfl

theorem own_base {w : World} {base base' : Nat} {e : TypeId} {size : Nat} {v : Value} {n : Nat} {xs : List Value} (h : w.ownsRow base e size v n xs) (hb : base' ≤ base) : w.ownsRow base' e size v n xs := by
  refine ⟨h.1, ?_⟩
  rcases h.2 with hn | ⟨g, cap, cur, hv, hg, r⟩
  · exact Or.inl hn
  · exact Or.inr ⟨g, cap, cur, hv, by omega, r⟩

theorem below_grow {B : Nat} {a w : World} (h : Below B a w) (hB : B ≤ w.heap.size) (os : Array Obj) : Below B a (grow w os) :=
  h.trans ⟨rfl, rfl, rfl, by rw [Go.Sort.size_grow]; omega, fun k hk => heap_grow_old w os (by omega)⟩

/-- The sort, called with the places in their order: behind it they lie newest first. -/
theorem sort_any (zs : List Int) (ao : Option Addr) (cap bx g base : Nat) (W : World) (hW : RowI W ao zs cap) (hbx : W.cell? ⟨bx, 0, none⟩ = some (.slice ao zs.length cap)) (hg : bx ≠ g) (hne : 0 < zs.length → ∀ b off, ao = some ⟨b, off, none⟩ → b ≠ g)
    (hn : zs.length ≤ 17592186044416) (hown : W.ownsRow base 3 1 (.slice (some ⟨g, 0, none⟩) zs.length zs.length) zs.length (ini zs.length zs.length)) (hbase : base ≤ W.heap.size) :
    Calls Tryz.prog 127 #[.slice (some ⟨g, 0, none⟩) zs.length zs.length, .func (.func 128) #[] #[.pointer (some ⟨bx, 0, none⟩)]] W fun e w' => e = .returned (.tuple #[]) ∧ w'.ownsRow base 3 1 (.slice (some ⟨g, 0, none⟩) zs.length zs.length) zs.length (encO (ordN zs)) ∧ Below base W w' := by
  by_cases h0 : zs.length = 0
  · have hz : zs = [] := List.eq_nil_of_length_eq_zero h0
    subst hz
    have hc := AnyF.slices_SortFunc_none (P := Tryz.prog) (ρ := Tryz.sortL_ren) { Tryz.sortL with } (some ⟨g, 0, none⟩) 0 (.func (.func 128) #[] #[.pointer (some ⟨bx, 0, none⟩)]) W
    refine hc.mono fun e w' ⟨he, hw⟩ => ⟨he, ?_, ?_⟩
    · rw [hw, show encO (ordN []) = ini 0 0 by simp [encO, ordN, srt, ini]]; exact hown
    · rw [hw]; exact Below.refl _ _
  · haveI : Inhabited (Fin zs.length) := ⟨⟨0, by omega⟩⟩
    rw [ini_full] at hown
    obtain ⟨g', cap', hv, hbg, hlt, _, _, _, hH⟩ := holds_of_ownsRow hown (by simp)
    simp only [Value.slice.injEq, Option.some.injEq, Addr.mk.injEq, and_true, true_and] at hv
    obtain ⟨rfl, rfl⟩ := hv
    have hsz : (List.finRange zs.length).toArray.size = zs.length := by simp
    have hc := Any.slices_SortFunc_total (P := Tryz.prog) (ρ := Tryz.sortL_ren) Tryz.sortL (encN zs.length) (fun _ => rfl) (cfN zs) (swoN zs) 128 #[.pointer (some ⟨bx, 0, none⟩)] g 0 zs.length (List.finRange zs.length).toArray W
      (enters_of Tryz.func128 (by kernel_rfl) rfl) (by rw [hsz]; exact lays zs ao cap bx g W hW hbx hg (hne (by omega))) hH hlt (by rw [hsz]; omega) (totN zs)
    rw [hsz] at hc
    refine hc.mono fun e w' ⟨he, n, os, hw⟩ => ⟨he, ?_, ?_⟩
    · rw [hw]
      have h1 := ownsRow_putRow (enc := encN zs.length) (q := n) (k := zs.length) (ys := srt zs) hown (srt_len zs) (Nat.le_refl _)
      rw [List.take_of_length_le (by rw [srt_len]; exact Nat.le_refl _), encO_srt] at h1
      exact ownsRow_grow h1 0 os
    · rw [hw]
      exact below_grow (below_putRow (Below.refl _ _) hbg) (by rw [size_putRow]; exact hbase) os

set_option maxHeartbeats 1000000 in
theorem newest_any (ao : Option Addr) (zs : List Int) (cap : Nat) (w : World) (h : RowI w ao zs cap) (hn : zs.length ≤ 17592186044416) :
    Calls Tryz.prog 97 #[.slice ao zs.length cap] w fun e w' => ∃ g, e = .returned (.slice (some ⟨g, 0, none⟩) zs.length zs.length) ∧ w'.ownsRow w.heap.size 3 1 (.slice (some ⟨g, 0, none⟩) zs.length zs.length) zs.length (encO (ordN zs)) ∧ Below w.heap.size w w' := by
  obtain ⟨i0, hi, hz0, hz1, hz2⟩ := info_parts info3
  have hbx0 : (w.alloc (.cells #[.slice ao zs.length cap] 22)).cell? ⟨w.heap.size, 0, none⟩ = some (.slice ao zs.length cap) := by simp
  go_enter Tryz.func97, Tryz.ntmps97
  go_wp2_with (at_make; refine wpList_make_full _ rfl _ _ 22 rfl (w.heap.size + 1) 3 i0 _ 1 Tryz.underlying22 hi hz0 hz1 _ _ _ _ zs.length rfl rfl rfl rfl (by rw [hz2]; omega) (by unfold maxLen; omega) (by simp) ?_; intro w1 hown1 hgrow1)
  have hbl1 : Below (w.heap.size + 1) (w.alloc (.cells #[.slice ao zs.length cap] 22)) w1 := (Below.refl _ _).grown hgrow1 (by simp) (fun k e => by cases e)
  rw [ini_zero, show (w.alloc (.cells #[.slice ao zs.length cap] 22)).heap.size = w.heap.size + 1 from by simp] at hown1
  clear hgrow1
  go_loopw [10] (fun i wr => ∃ k : Nat, k ≤ zs.length ∧ i = .int .i64 k ∧ wr.ownsRow (w.heap.size + 1) 3 1 (.slice (some ⟨w.heap.size + 1, 0, none⟩) zs.length zs.length) zs.length (ini zs.length k) ∧ Below (w.heap.size + 1) (w.alloc (.cells #[.slice ao zs.length cap] 22)) wr) (fun i _ => zs.length - (intOf i).toNat)
  case atStart => exact ⟨0, Nat.zero_le _, rfl, hown1, hbl1⟩
  case round =>
    obtain ⟨k, hk, rfl, hown, hbl⟩ := hrel
    clear hown1 hbl1
    by_cases hlt : k < zs.length
    · have d1 : ∃ u, wr.cell? ⟨w.heap.size + 1, k, none⟩ = some u := by rw [hown.cellAt k (by omega)]; exact ⟨_, List.getElem?_eq_getElem (by rw [ini_len]; exact hlt)⟩
      obtain ⟨u, d1⟩ := d1
      have f1 : wr.frozen? ⟨w.heap.size + 1, k, none⟩ = false := hown.frozenAt _
      have s1 := hown.stored k (.int .i64 (k : Int))
      rw [ini_set] at s1
      have hb2 := hbl.setCell (p := ⟨w.heap.size + 1, k, none⟩) (by exact Nat.le_refl _) (.int .i64 (k : Int))
      have hE := s1.1
      clear hown s1 hbl h
      go_wp2
      go_roundw
      case rel => exact ⟨k + 1, by omega, by go_num, hE, hb2⟩
      case measure => simp [intOf]; omega
    · have hke : k = zs.length := by omega
      have hown2 : wr.ownsRow (w.heap.size + 1) 3 1 (.slice (some ⟨w.heap.size + 1, 0, none⟩) zs.length zs.length) zs.length (ini zs.length zs.length) := by rw [hke] at hown; exact hown
      have hB : Below w.heap.size w wr := ((Below.refl _ _).alloc (Nat.le_refl _) _).trans (hbl.mono (by omega))
      have hsz : w.heap.size + 1 ≤ wr.heap.size := by have := hbl.size; simp at this; omega
      have HS := sort_any zs ao cap w.heap.size (w.heap.size + 1) (w.heap.size + 1) wr (h.below hB) ((hbl.cell (p := ⟨w.heap.size, 0, none⟩) (by show w.heap.size < w.heap.size + 1; omega)).trans hbx0) (by omega)
        (fun h0 b off e => by
          intro eb
          obtain ⟨b', off', e', hc⟩ := h.2 h0
          rw [e'] at e
          simp at e
          have := World.block_lt_of_cell? _ _ (hc 0 h0)
          simp at this
          omega) hn hown2 hsz
      clear hown hown2 hke h
      go_wp2_with (go_at_call 127; refine HS.mono ?_; rintro e w2 ⟨rfl, ho2, hb2⟩)
      go_ret
      exact ⟨_, rfl, own_base ho2 (by omega), hB.trans (hb2.mono (by omega))⟩
end Go.Proofs.YthdhegmlknpllabGreatDoor.Kp

/-
  The walks of tether/grid.countAbove (19), keepByRule (20).
-/
namespace Go.Proofs.YthdhegmlknpllabGreatDoor.Kp
open Go.RowKit Pl

/-- Places as numbers. -/
def oz (o : List Nat) : List Int := o.map fun (i : Nat) => (i : Int)
theorem oz_len (o : List Nat) : (oz o).length = o.length := by simp [oz]
theorem oz_tm (o : List Nat) (k : Nat) (h : k < o.length) : tm (oz o) k = (o[k] : Int) := by simp [tm, oz, h]

theorem RowI.set {w : World} {ao : Option Addr} {zs : List Int} {cap g j : Nat} {u : Value} (h : RowI w ao zs cap) (hne : 0 < zs.length → ∀ b off, ao = some ⟨b, off, none⟩ → b ≠ g) : RowI (w.setCell ⟨g, j, none⟩ u) ao zs cap := by
  refine ⟨h.1, fun h0 => ?_⟩
  obtain ⟨b, off, e, hc⟩ := h.2 h0
  exact ⟨b, off, e, fun i hi => (World.cell?_setCell_other _ _ _ _ (by intro e'; simp only [Addr.mk.injEq] at e'; exact hne h0 b off e e'.1.symm)).trans (hc i hi)⟩

/-- How many places at the head have times above now. -/
def fut (now : Int) (zs : List Int) (o : List Nat) : Nat := (o.takeWhile fun p => decide (now < tm zs p)).length
theorem fut_le (now : Int) (zs : List Int) (o : List Nat) : fut now zs o ≤ o.length := (List.takeWhile_sublist _).length_le

set_option maxHeartbeats 1000000 in
theorem count_any (now : Int) (a1 a2 : Option Addr) (zs : List Int) (o : List Nat) (c1 c2 : Nat) (w : World) (h1 : RowI w a1 zs c1) (h2 : RowI w a2 (oz o) c2) (hz : zs.length ≤ 17592186044416) (ho : o.length ≤ 17592186044416) (hp : ∀ p ∈ o, p < zs.length) :
    Calls Tryz.prog 98 #[.int .i64 now, .slice a1 zs.length c1, .slice a2 o.length c2] w fun e w' => e = .returned (.int .i64 (fut now zs o : Nat)) ∧ w' = w := by
  obtain ⟨r, hr⟩ : ∃ r, fut now zs o = r := ⟨_, rfl⟩
  rw [hr]
  have HR : Hid (0 + fut now zs (o.drop 0) = r) := by show _ = _; rw [Nat.zero_add]; exact hr
  have HP : Hid _ := hp
  clear hr hp
  go_enter Tryz.func98, Tryz.ntmps98
  go_wp2
  go_loop [7] (fun i => ∃ k : Nat, k ≤ o.length ∧ i = .int .i64 k ∧ Hid (k + fut now zs (o.drop k) = r)) (fun i => o.length - (intOf i).toNat)
  case atStart => exact ⟨0, Nat.zero_le _, rfl, HR⟩
  case round =>
    obtain ⟨k, hk, rfl, HK⟩ := hrel
    clear HR
    by_cases hlt : k < o.length
    · obtain ⟨b2, off2, rfl, hc2⟩ := h2.2 (by rw [oz_len]; omega)
      have hpk : o[k] < zs.length := HP.out _ (List.getElem_mem hlt)
      obtain ⟨b1, off1, rfl, hc1⟩ := h1.2 (by omega)
      have d2 := hc2 k (by rw [oz_len]; exact hlt)
      rw [oz_tm o k hlt] at d2
      have d1 := hc1 o[k] hpk
      have H := HK.out
      rw [List.drop_eq_getElem_cons hlt] at H
      have l2 := h2.1
      rw [oz_len] at l2
      have l1 := h1.1
      obtain ⟨p, hpp⟩ : ∃ p, o[k] = p := ⟨_, rfl⟩
      rw [hpp] at d1 d2 hpk H
      obtain ⟨x, hx⟩ : ∃ x, tm zs p = x := ⟨_, rfl⟩
      rw [hx] at d1
      have hltz : (k : Int) < (o.length : Int) := by omega
      by_cases hgt : now < x
      · have e : fut now zs (p :: o.drop (k + 1)) = fut now zs (o.drop (k + 1)) + 1 := by simp [fut, hx, hgt]
        rw [e] at H
        have HH : Hid (k + 1 + fut now zs (o.drop (k + 1)) = r) := by show _ = _; rw [← H]; omega
        clear H HK hc1 hc2 h1 h2 hpp hx e
        go_wp2
        go_round
        case rel => exact ⟨k + 1, by omega, by go_num, HH⟩
        case measure => simp [intOf]; omega
      · have e : fut now zs (p :: o.drop (k + 1)) = 0 := by simp [fut, hx, hgt]
        rw [e, Nat.add_zero] at H
        subst H
        clear HK hc1 hc2 h1 h2 hpp hx e
        go_wp2
        go_ret
        exact ⟨rfl, rfl⟩
    · have H := HK.out
      rw [drop_nil o k hlt] at H
      simp only [fut, List.takeWhile_nil, List.length_nil, Nat.add_zero] at H
      subst H
      have hltz : ¬ (k : Int) < (o.length : Int) := by omega
      clear HK h1 h2
      go_wp2
      go_ret
      exact ⟨rfl, rfl⟩

/-- Which places are marked, as cells. -/
def bs (n : Nat) (S : List Nat) : List Value := (List.range n).map fun k => .bool (decide (k ∈ S))
theorem bs_len (n : Nat) (S : List Nat) : (bs n S).length = n := by simp [bs]
theorem bs_set (n p : Nat) (S : List Nat) : (bs n S).set p (.bool true) = bs n (S ++ [p]) := by
  apply List.ext_getElem
  · simp [bs]
  · intro i h1 h2
    simp only [bs, List.getElem_set, List.getElem_map, List.getElem_range]
    by_cases e : p = i
    · subst e; simp
    · rw [if_neg e]
      have : ¬ i = p := fun x => e x.symm
      simp [this]

theorem gb_trans {a b c : World} {row : Option Nat} (h : a.grownBy b row) (h' : b.grownBy c row) : a.grownBy c row :=
  ⟨h'.os.trans h.os, h'.tape.trans h.tape, h'.output.trans h.output, Nat.le_trans h.size h'.size, fun k hk hn => (h'.block k (Nat.lt_of_lt_of_le hk h.size) hn).trans (h.block k hk hn)⟩
theorem gb_drewN {a b : World} {row : Option Nat} (h : a.grownBy b row) (n : Nat) : a.grownBy (b.drewN n) row := ⟨h.os, h.tape, h.output, h.size, h.block⟩

set_option maxHeartbeats 2000000 in
theorem rule_any (now : Int) (a1 a2 : Option Addr) (zs : List Int) (o : List Nat) (c1 c2 g base : Nat) (c q : Int) (S : List Nat) (w : World) (h1 : RowI w a1 zs c1) (h2 : RowI w a2 (oz o) c2)
    (hown : w.ownsRow base 4 1 (.slice (some ⟨g, 0, none⟩) zs.length zs.length) zs.length (bs zs.length S))
    (n1 : 0 < zs.length → ∀ b off, a1 = some ⟨b, off, none⟩ → b ≠ g) (n2 : 0 < (oz o).length → ∀ b off, a2 = some ⟨b, off, none⟩ → b ≠ g)
    (hz : zs.length ≤ 17592186044416) (ho : o.length ≤ 17592186044416) (hp : ∀ p ∈ o, p < zs.length) (hnow : 0 ≤ now ∧ now ≤ 1073741824) (ht : ∀ p ∈ o, 0 ≤ tm zs p ∧ tm zs p ≤ now) (hc : 1 ≤ c ∧ c ≤ 20) (hq : 1 ≤ q ∧ q ≤ 1000000) :
    Calls Tryz.prog 99 #[.slice (some ⟨g, 0, none⟩) zs.length zs.length, .int .i64 now, .slice a1 zs.length c1, .slice a2 o.length c2, .agg #[.int .i64 c, .int .i64 q]] w fun e w' =>
      e = .returned (.tuple #[]) ∧ w'.ownsRow base 4 1 (.slice (some ⟨g, 0, none⟩) zs.length zs.length) zs.length (bs zs.length (S ++ rm (st now zs q) c o (-1))) ∧ w.grownBy w' (some g) := by
  obtain ⟨R, hR⟩ : ∃ R, S ++ rm (st now zs q) c o (-1) = R := ⟨_, rfl⟩
  rw [hR]
  have HR : Hid (S ++ rm (st now zs q) c (o.drop 0) (-1) = R) := hR
  have HP : Hid _ := hp
  have HT : Hid _ := ht
  have hgl := (hown.lt g rfl).2
  have N1 : Hid _ := n1
  have N2 : Hid _ := n2
  have H1 : Hid (RowI w a1 zs c1) := h1
  have H2 : Hid (RowI w a2 (oz o) c2) := h2
  clear hR hp ht n1 n2 h1 h2
  obtain ⟨hc0, hc20⟩ := hc
  obtain ⟨hq0, hq6⟩ := hq
  obtain ⟨hn0, hn30⟩ := hnow
  go_enter Tryz.func99, Tryz.ntmps99
  go_wp2
  go_loopw [10, 16] (fun sn i wr => ∃ (k : Nat) (seen : Int) (S' : List Nat), k ≤ o.length ∧ i = .int .i64 k ∧ sn = .int .i64 seen ∧ -1 ≤ seen ∧ seen ≤ 1073741824 ∧ wr.ownsRow base 4 1 (.slice (some ⟨g, 0, none⟩) zs.length zs.length) zs.length (bs zs.length S') ∧
      Hid (RowI wr a1 zs c1) ∧ Hid (RowI wr a2 (oz o) c2) ∧ wr.cell? ⟨w.heap.size, 0, none⟩ = some (.int .i64 c) ∧ wr.cell? ⟨w.heap.size, 1, none⟩ = some (.int .i64 q) ∧ w.grownBy wr (some g) ∧ Hid (S' ++ rm (st now zs q) c (o.drop k) seen = R)) (fun _ i _ => o.length - (intOf i).toNat)
  case atStart => exact ⟨0, -1, S, Nat.zero_le _, rfl, rfl, by omega, by omega, hown.alloc _, H1.out.below ((Below.refl _ _).alloc (Nat.le_refl _) _), H2.out.below ((Below.refl _ _).alloc (Nat.le_refl _) _), by simp, by simp, World.grownBy_alloc _ _ _, HR⟩
  case round =>
    obtain ⟨k, seen, S', hk, rfl, rfl, hs1, hs2, hown', R1, R2, b0, b1, hgr, HK⟩ := hrel
    clear HR hown H1 H2
    by_cases hlt : k < o.length
    · obtain ⟨bb2, off2, hb2, hc2⟩ := R2.out.2 (by rw [oz_len]; omega)
      have hpk : o[k] < zs.length := HP.out _ (List.getElem_mem hlt)
      have htk := HT.out _ (List.getElem_mem hlt)
      obtain ⟨bb1, off1, hb1, hc1⟩ := R1.out.2 (by omega)
      subst hb1
      subst hb2
      have e2 := hc2 k (by rw [oz_len]; exact hlt)
      rw [oz_tm o k hlt] at e2
      have e1 := hc1 o[k] hpk
      have H := HK.out
      rw [List.drop_eq_getElem_cons hlt] at H
      have l2 := R2.out.1
      rw [oz_len] at l2
      have l1 := R1.out.1
      obtain ⟨p, hpp⟩ : ∃ p, o[k] = p := ⟨_, rfl⟩
      rw [hpp] at e1 e2 hpk H htk
      obtain ⟨x, hx⟩ : ∃ x, tm zs p = x := ⟨_, rfl⟩
      rw [hx] at e1 htk
      obtain ⟨ht0, ht1⟩ := htk
      unfold rm at H
      have hst : st now zs q p = (now - x) / q := by rw [st, hx]
      rw [hst] at H
      have hd0 : 0 ≤ (now - x) / q := Int.ediv_nonneg (by omega) (by omega)
      have hd1 : (now - x) / q ≤ now - x := Int.ediv_le_self _ (by omega)
      have e1' : ∀ m, (wr.drewN m).cell? ⟨bb1, off1 + p, none⟩ = some (.int .i64 x) := fun m => e1
      have b0' : ∀ m, (wr.drewN m).cell? ⟨w.heap.size, 0, none⟩ = some (.int .i64 c) := fun m => b0
      have b1' : ∀ m, (wr.drewN m).cell? ⟨w.heap.size, 1, none⟩ = some (.int .i64 q) := fun m => b1
      have hfr : wr.frozen? ⟨g, p, none⟩ = false := hown'.frozenAt _
      obtain ⟨u, hu⟩ : ∃ u, wr.cell? ⟨g, p, none⟩ = some u := by rw [hown'.cellAt p (by omega)]; exact ⟨_, List.getElem?_eq_getElem (by rw [bs_len]; exact hpk)⟩
      clear hc1 hc2 hpp hx hst HK
      by_cases hst : c ≤ (now - x) / q
      · rw [if_pos hst, List.append_nil] at H
        subst H
        clear R1 R2
        go_wp2
        go_quiet (fail)
        go_wp2
        exact bodyPost_ret (v := .tuple #[]) (by simp [results, go_sem]) rfl ⟨rfl, hown', gb_drewN hgr _⟩
      · rw [if_neg hst] at H
        by_cases hse : (now - x) / q = seen
        · rw [if_pos hse] at H
          have HH : Hid _ := H
          have hsb : ((now - x) / q != seen) = false := by simpa using hse
          have G1 : Hid (∀ m, RowI (wr.drewN m) (some ⟨bb1, off1, none⟩) zs c1 ∧ RowI (wr.drewN m) (some ⟨bb2, off2, none⟩) (oz o) c2 ∧ w.grownBy (wr.drewN m) (some g)) := fun m => ⟨R1.out, R2.out, gb_drewN hgr m⟩
          clear H R1 R2 hse
          go_wp2
          go_quiet (fail)
          go_wp2
          go_roundw
          case rel => exact ⟨k + 1, seen, S', by omega, by go_num, rfl, hs1, hs2, hown', (G1.out nq).1, (G1.out nq).2.1, b0, b1, (G1.out nq).2.2, HH⟩
          case measure => simp [intOf]; omega
        · rw [if_neg hse] at H
          have HH : Hid (S' ++ [p] ++ rm (st now zs q) c (List.drop (k + 1) o) ((now - x) / q) = R) := by show _ = _; rw [← H]; simp
          have hsb : ((now - x) / q != seen) = true := by simpa using hse
          have hstd := hown'.stored p (.bool true)
          rw [bs_set] at hstd
          have G1 : Hid (∀ m, RowI ((wr.drewN m).setCell ⟨g, p, none⟩ (.bool true)) (some ⟨bb1, off1, none⟩) zs c1 ∧ RowI ((wr.drewN m).setCell ⟨g, p, none⟩ (.bool true)) (some ⟨bb2, off2, none⟩) (oz o) c2 ∧ w.grownBy ((wr.drewN m).setCell ⟨g, p, none⟩ (.bool true)) (some g) ∧
              ((wr.drewN m).setCell ⟨g, p, none⟩ (.bool true)).ownsRow base 4 1 (.slice (some ⟨g, 0, none⟩) zs.length zs.length) zs.length (bs zs.length (S' ++ [p])) ∧
              ((wr.drewN m).setCell ⟨g, p, none⟩ (.bool true)).cell? ⟨w.heap.size, 0, none⟩ = some (.int .i64 c) ∧ ((wr.drewN m).setCell ⟨g, p, none⟩ (.bool true)).cell? ⟨w.heap.size, 1, none⟩ = some (.int .i64 q)) := fun m =>
            ⟨RowI.set (w := wr.drewN m) R1.out N1.out, RowI.set (w := wr.drewN m) R2.out N2.out, gb_trans hgr (gb_drewN hstd.2 m), hstd.1,
              (World.cell?_setCell_other _ _ _ _ (by intro e'; simp only [Addr.mk.injEq] at e'; omega)).trans b0, (World.cell?_setCell_other _ _ _ _ (by intro e'; simp only [Addr.mk.injEq] at e'; omega)).trans b1⟩
          clear H R1 R2 hse hstd N1 N2 hown' hgr
          go_wp2
          go_quiet (fail)
          go_wp2
          go_roundw
          case rel => exact ⟨k + 1, (now - x) / q, S' ++ [p], by omega, by go_num, rfl, by omega, by omega, (G1.out nq).2.2.2.1, (G1.out nq).1, (G1.out nq).2.1, (G1.out nq).2.2.2.2.1, (G1.out nq).2.2.2.2.2, (G1.out nq).2.2.1, HH⟩
          case measure => simp [intOf]; omega
    · have H := HK.out
      rw [drop_nil o k hlt] at H
      simp only [rm, List.append_nil] at H
      subst H
      clear HK R1 R2
      go_wp2
      go_end0
      exact ⟨rfl, hown', hgr⟩
end Go.Proofs.YthdhegmlknpllabGreatDoor.Kp

/-
  The walk of tether/grid.Keep (6).
-/
namespace Go.Proofs.YthdhegmlknpllabGreatDoor.Kp
open Go.RowKit Pl

def okA (now : Int) (zs : List Int) (last : Int) (rs : List (Int × Int)) : Bool := okT now && zs.all okT && decide (0 ≤ last) && okRs rs
def kr (now : Int) (zs : List Int) (last : Int) (rs : List (Int × Int)) : List Value := (List.range zs.length).map fun k => .bool (keepR now zs last rs k)

theorem bs_kr (now : Int) (zs : List Int) (last : Int) (rs : List (Int × Int)) (h0 : 0 ≤ last) (hr : okRs rs = true) : bs zs.length (prS now zs last.toNat rs (ordN zs)) = kr now zs last rs := by
  unfold bs kr
  apply List.map_congr_left
  intro k hk
  have hs : ∀ r ∈ rs, 1 ≤ r.2 := by
    intro r hm
    simp only [okRs, Bool.and_eq_true, List.all_eq_true] at hr
    have := hr.2 r hm
    simp [okR] at this
    omega
  have := keep_eq (now := now) (ordN_ord zs) (List.mem_range.1 hk) last h0 rs hs
  cases hkk : keepR now zs last rs k with
  | true => rw [hkk] at this; simp [this.2 rfl]
  | false => rw [hkk] at this; simp only [Bool.false_eq_true, iff_false] at this; simp [this]

theorem row_one (w : World) (now : Int) : RowI (w.alloc (.cells #[.int .i64 now] 3)) (some ⟨w.heap.size, 0, none⟩) [now] 1 :=
  ⟨Nat.le_refl _, fun _ => ⟨_, _, rfl, fun i hi => by
    have : i = 0 := by simpa using hi
    subst this
    simp [tm]⟩⟩

theorem info4 : (Tryz.prog.info? 4).map (fun i => (i.zero, i.size, i.bytes)) = some (some (.bool false), 1, 1) := by kernel_rfl

set_option maxHeartbeats 1000000 in
theorem keep_bad (now last : Int) (a1 a3 : Option Addr) (zs : List Int) (rs : List (Int × Int)) (c1 c3 : Nat) (w : World) (h1 : RowI w a1 zs c1) (h3 : RowR w a3 rs c3) (hz : zs.length ≤ 17592186044416) (hr : rs.length ≤ 17592186044416) (hok : okA now zs last rs = false) :
    Calls Tryz.prog 64 #[.int .i64 now, .slice a1 zs.length c1, .int .i64 last, .slice a3 rs.length c3] w fun e w' => e = .returned (.tuple #[.slice none 0 0, .int .i64 1]) ∧ Below w.heap.size w w' := by
  have hb0 : Below w.heap.size w (w.alloc (.cells #[.int .i64 now] 3)) := (Below.refl _ _).alloc (Nat.le_refl _) _
  have HT1 := tmay_any _ [now] 1 _ (row_one w now) (by simp)
  have HT2 := tmay_any a1 zs c1 _ (h1.below hb0) hz
  have HR3 := rmay_any a3 rs c3 _ (h3.below hb0) hr
  have e1 : [now].all okT = okT now := by simp
  rw [e1] at HT1
  have hsz : (w.alloc (.cells #[.int .i64 now] 3)).heap.size = w.heap.size + 1 := by simp
  rw [hsz] at HR3
  clear h1 h3
  cases x1 : okT now with
  | false =>
    rw [x1] at HT1
    clear HT2 HR3 hok x1 e1
    go_enter Tryz.func64, Tryz.ntmps64
    go_wp2_with fail
    refine HT1.mono ?_
    rintro e w1 ⟨rfl, hw⟩
    rw [hw]
    go_wp2
    go_ret2
    exact ⟨rfl, hb0⟩
  | true =>
    rw [x1] at HT1
    cases x2 : zs.all okT with
    | false =>
      rw [x2] at HT2
      clear HR3 hok x1 x2 e1
      go_enter Tryz.func64, Tryz.ntmps64
      go_wp2_with fail
      refine HT1.mono ?_
      rintro e w1 ⟨rfl, hw⟩
      rw [hw]
      clear hw
      go_wp2_with fail
      refine HT2.mono ?_
      rintro e w2 ⟨rfl, hw⟩
      rw [hw]
      go_wp2
      go_ret2
      exact ⟨rfl, hb0⟩
    | true =>
      rw [x2] at HT2
      by_cases x3 : last < 0
      · clear HR3 hok x1 x2 e1
        go_enter Tryz.func64, Tryz.ntmps64
        go_wp2_with fail
        refine HT1.mono ?_
        rintro e w1 ⟨rfl, hw⟩
        rw [hw]
        clear hw
        go_wp2_with fail
        refine HT2.mono ?_
        rintro e w2 ⟨rfl, hw⟩
        rw [hw]
        go_wp2
        go_ret2
        exact ⟨rfl, hb0⟩
      · have x4 : okRs rs = false := by
          have : decide (0 ≤ last) = true := by simp; omega
          rw [okA, x1, x2, this] at hok
          simpa using hok
        rw [x4] at HR3
        clear hok x1 x2 x4 e1
        go_enter Tryz.func64, Tryz.ntmps64
        go_wp2_with fail
        refine HT1.mono ?_
        rintro e w1 ⟨rfl, hw⟩
        rw [hw]
        clear hw
        go_wp2_with fail
        refine HT2.mono ?_
        rintro e w2 ⟨rfl, hw⟩
        rw [hw]
        clear hw
        go_wp2_with fail
        refine HR3.mono ?_
        rintro e w3 ⟨rfl, hb3⟩
        go_wp2
        go_ret2
        exact ⟨rfl, hb0.trans (hb3.mono (by omega))⟩
end Go.Proofs.YthdhegmlknpllabGreatDoor.Kp

/-
  The walk of tether/grid.Keep (6) where it answers.
-/
namespace Go.Proofs.YthdhegmlknpllabGreatDoor.Kp
open Go.RowKit Pl

theorem encO_row {w : World} {base g n : Nat} {o : List Nat} (hl : o.length = n) (h : w.ownsRow base 3 1 (.slice (some ⟨g, 0, none⟩) n n) n (encO o)) : RowI w (some ⟨g, 0, none⟩) (oz o) n := by
  refine ⟨by rw [oz_len, hl]; exact Nat.le_refl _, fun _ => ⟨g, 0, rfl, fun i hi => ?_⟩⟩
  rw [oz_len] at hi
  rw [Nat.zero_add, h.cellAt i (by omega), oz_tm o i hi]
  simp [encO, hi]

theorem bs_nil (n : Nat) : (madeCells (Value.bool false).cells (n * 1)).toList = bs n [] := by
  apply List.ext_getElem
  · simp [madeCells, bs]
  · intro i h1 h2
    simp [madeCells, bs, Value.cells, Nat.mod_one]

theorem ordN_len (zs : List Int) : (ordN zs).length = zs.length := by simp [ordN, srt_len]
theorem ordN_lt (zs : List Int) : ∀ p ∈ ordN zs, p < zs.length := fun _ hp => List.mem_range.1 ((ordN_ord zs).perm.mem_iff.1 hp)

/-- What holds while the places are marked: the order lies at g1, the marks at G. -/
def KI (w : World) (g1 G n : Nat) (o S : List Nat) (wr : World) : Prop :=
  Below w.heap.size w wr ∧ wr.ownsRow G 4 1 (.slice (some ⟨G, 0, none⟩) n n) n (bs n S) ∧ wr.ownsRow w.heap.size 3 1 (.slice (some ⟨g1, 0, none⟩) n n) n (encO o) ∧ w.heap.size ≤ g1 ∧ g1 < G

theorem KI.mark {w : World} {g1 G n : Nat} {o S : List Nat} {wr : World} (h : KI w g1 G n o S wr) (p : Nat) : KI w g1 G n o (S ++ [p]) (wr.setCell ⟨G, p, none⟩ (.bool true)) := by
  obtain ⟨h1, h2, h3, h4, h5⟩ := h
  refine ⟨h1.setCell (by show w.heap.size ≤ G; omega) _, ?_, ownsRow_setCell_other h3 (by simp [Value.ownBlock]; omega) _, h4, h5⟩
  have := (h2.stored p (.bool true)).1
  rwa [bs_set] at this
theorem KI.alloc {w : World} {g1 G n : Nat} {o S : List Nat} {wr : World} (h : KI w g1 G n o S wr) (x : Obj) : KI w g1 G n o S (wr.alloc x) :=
  ⟨h.1.alloc h.1.size _, h.2.1.alloc _, h.2.2.1.alloc _, h.2.2.2⟩
theorem KI.drewN {w : World} {g1 G n : Nat} {o S : List Nat} {wr : World} (h : KI w g1 G n o S wr) (m : Nat) : KI w g1 G n o S (wr.drewN m) :=
  ⟨bdn h.1 m, h.2.1, h.2.2.1, h.2.2.2⟩
theorem KI.rule {w : World} {g1 G n : Nat} {o S S' : List Nat} {wr w' : World} (h : KI w g1 G n o S wr) (h' : w'.ownsRow G 4 1 (.slice (some ⟨G, 0, none⟩) n n) n (bs n S')) (hg : wr.grownBy w' (some G)) : KI w g1 G n o S' w' := by
  obtain ⟨h1, h2, h3, h4, h5⟩ := h
  exact ⟨h1.grown hg h1.size (fun k e => by cases e; omega), h', h3.kept hg (Or.inr (by simp [Value.ownBlock]; omega)), h4, h5⟩
theorem KI.place {w : World} {g1 G n : Nat} {o S : List Nat} {wr : World} (h : KI w g1 G n o S wr) (k : Nat) (hk : k < o.length) : wr.cell? ⟨g1, k, none⟩ = some (.int .i64 (o[k] : Int)) := by
  have hl : o.length = n := by have := h.2.2.1.1; simpa [encO] using this
  rw [h.2.2.1.cellAt k (by omega)]
  simp [encO, hk]
theorem KI.seat {w : World} {g1 G n : Nat} {o S : List Nat} {wr : World} (h : KI w g1 G n o S wr) (p : Nat) (hp : p < n) : (∃ u, wr.cell? ⟨G, p, none⟩ = some u) ∧ wr.frozen? ⟨G, p, none⟩ = false :=
  ⟨by rw [h.2.1.cellAt p (by omega)]; exact ⟨_, List.getElem?_eq_getElem (by rw [bs_len]; exact hp)⟩, h.2.1.frozenAt _⟩
theorem KI.order {w : World} {g1 G n : Nat} {o S : List Nat} {wr : World} (h : KI w g1 G n o S wr) : RowI wr (some ⟨g1, 0, none⟩) (oz o) n :=
  encO_row (by have := h.2.2.1.1; simpa [encO] using this) h.2.2.1

theorem take_next (o : List Nat) (k : Nat) (h : k < o.length) : o.take k ++ [o[k]] = o.take (k + 1) := (List.take_succ_eq_append_getElem h).symm
theorem take_fut (now : Int) (zs : List Int) : ∀ o : List Nat, o.take (fut now zs o) = o.takeWhile (fun p => decide (now < tm zs p)) ∧ o.drop (fut now zs o) = o.dropWhile (fun p => decide (now < tm zs p))
  | [] => by simp [fut]
  | p :: o => by
    have ih := take_fut now zs o
    unfold fut at ih ⊢
    cases h : decide (now < tm zs p) with
    | true => simp [h, ih]
    | false => simp [h]

theorem take_last (o : List Nat) (L m : Nat) (h : L = min m o.length) : o.take L = o.take m := by
  by_cases hm : m ≤ o.length
  · rw [h, Nat.min_eq_left hm]
  · rw [h, Nat.min_eq_right (by omega), List.take_of_length_le (Nat.le_refl _), List.take_of_length_le (by omega)]

theorem fut_old {now : Int} {zs : List Int} {o : List Nat} (h : Ord zs o) (p : Nat) (hp : p ∈ o.drop (fut now zs o)) : tm zs p ≤ now := by
  rw [(take_fut now zs o).2] at hp
  have hpw : o.Pairwise (fun a b => (fun p => decide (now < tm zs p)) b = true → (fun p => decide (now < tm zs p)) a = true) :=
    h.desc.imp fun {a b} hab hb => by have := nw_ge zs a b hab; simp at hb ⊢; omega
  rw [dw_filter hpw] at hp
  have := (List.mem_filter.1 hp).2
  simpa using this

theorem okT_tm {zs : List Int} (h : zs.all okT = true) (p : Nat) (hp : p < zs.length) : 0 ≤ tm zs p ∧ tm zs p ≤ 1073741824 := by
  have := List.all_eq_true.1 h zs[p] (List.getElem_mem hp)
  simp only [okT, Bool.and_eq_true, decide_eq_true_eq] at this
  have e : tm zs p = zs[p] := by simp [tm, hp]
  rw [e]; exact this

theorem KI.ruled {now : Int} {a1 : Option Addr} {zs : List Int} {o : List Nat} {c1 g1 G : Nat} {S : List Nat} {w W : World} {c q : Int} (h1 : RowI w a1 zs c1) (hK : KI w g1 G zs.length o S W) (hO : Ord zs o) (hz : zs.length ≤ 17592186044416) (hol : o.length = zs.length)
    (hn : okT now = true) (hT : zs.all okT = true) (hr : okR (c, q) = true) (F : Nat) (hF : fut now zs o = F) :
    Calls Tryz.prog 99 #[.slice (some ⟨G, 0, none⟩) zs.length zs.length, .int .i64 now, .slice a1 zs.length c1, .slice (if zs.length = F then some ⟨g1, 0, none⟩ else some ⟨g1, F, none⟩) (zs.length - F) (zs.length - F), .agg #[.int .i64 c, .int .i64 q]] W fun e w' =>
      e = .returned (.tuple #[]) ∧ KI w g1 G zs.length o (S ++ rm (st now zs q) c (o.drop F) (-1)) w' ∧ W.grownBy w' (some G) := by
  have hlen : (o.drop F).length = zs.length - F := by simp [hol]
  have hperm : ∀ p ∈ o, p < zs.length := fun p hp => List.mem_range.1 (hO.perm.mem_iff.1 hp)
  simp only [okT, Bool.and_eq_true, decide_eq_true_eq] at hn
  simp only [okR, Bool.and_eq_true, decide_eq_true_eq] at hr
  have hA : RowI W a1 zs c1 := h1.below hK.1
  have hR : RowI W (if zs.length = F then some ⟨g1, 0, none⟩ else some ⟨g1, F, none⟩) (oz (o.drop F)) (zs.length - F) := by
    refine ⟨by rw [oz_len, hlen]; exact Nat.le_refl _, fun h0 => ?_⟩
    rw [oz_len, hlen] at h0
    refine ⟨g1, F, by rw [if_neg (by omega)], fun i hi => ?_⟩
    rw [oz_len, hlen] at hi
    rw [hK.place (F + i) (by omega), oz_tm _ i (by rw [hlen]; exact hi), List.getElem_drop]
  have hc := rule_any now a1 _ zs (o.drop F) c1 (zs.length - F) G G c q S W hA hR hK.2.1
    (fun h0 b off e => by
      obtain ⟨b', off', e', hc⟩ := h1.2 h0
      rw [e'] at e
      simp at e
      have := World.block_lt_of_cell? _ _ (hc 0 h0)
      simp at this
      have := hK.2.2.2.1
      have := hK.2.2.2.2
      omega)
    (fun h0 b off e => by
      rw [oz_len, hlen] at h0
      rw [if_neg (by omega)] at e
      simp at e
      have := hK.2.2.2.2
      omega)
    hz (by rw [hlen]; omega) (fun p hp => hperm p (List.mem_of_mem_drop hp)) hn
    (fun p hp => ⟨(okT_tm hT p (hperm p (List.mem_of_mem_drop hp))).1, by rw [← hF] at hp; exact fut_old hO p hp⟩) (by omega) (by omega)
  rw [hlen] at hc
  exact hc.mono fun e w' ⟨he, ho', hg⟩ => ⟨he, hK.rule ho' hg, hg⟩

set_option maxRecDepth 100000 in
set_option maxHeartbeats 600000 in
theorem keep_ok (now last : Int) (a1 a3 : Option Addr) (zs : List Int) (rs : List (Int × Int)) (c1 c3 : Nat) (w : World) (h1 : RowI w a1 zs c1) (h3 : RowR w a3 rs c3) (hz : zs.length ≤ 17592186044416) (hr : rs.length ≤ 17592186044416) (hl : last ≤ 9223372036854775807) (hok : okA now zs last rs = true) :
    Calls Tryz.prog 64 #[.int .i64 now, .slice a1 zs.length c1, .int .i64 last, .slice a3 rs.length c3] w fun e w' => ∃ g, e = .returned (.tuple #[.slice (some ⟨g, 0, none⟩) zs.length zs.length, .int .i64 0]) ∧ w'.ownsRow w.heap.size 4 1 (.slice (some ⟨g, 0, none⟩) zs.length zs.length) zs.length (kr now zs last rs) ∧ Below w.heap.size w w' := by
  obtain ⟨i0, hi, hz0, hz1, hz2⟩ := info_parts info4
  simp only [okA, Bool.and_eq_true, decide_eq_true_eq] at hok
  obtain ⟨⟨⟨x1, x2⟩, x3⟩, x4⟩ := hok
  rw [← bs_kr now zs last rs x3 x4]
  have hb0 : Below w.heap.size w (w.alloc (.cells #[.int .i64 now] 3)) := (Below.refl _ _).alloc (Nat.le_refl _) _
  have HT1 := tmay_any _ [now] 1 _ (row_one w now) (by simp)
  have HT2 := tmay_any a1 zs c1 _ (h1.below hb0) hz
  have HR3 := rmay_any a3 rs c3 _ (h3.below hb0) hr
  have hsz : (w.alloc (.cells #[.int .i64 now] 3)).heap.size = w.heap.size + 1 := by simp
  rw [show [now].all okT = true by simp [x1]] at HT1
  rw [x2] at HT2
  rw [x4, hsz] at HR3
  obtain ⟨o, ho⟩ : ∃ o, ordN zs = o := ⟨_, rfl⟩
  have hol : o.length = zs.length := by rw [← ho]; exact ordN_len zs
  have HOP : Hid (∀ p ∈ o, p < zs.length) := by rw [← ho]; exact ordN_lt zs
  have HORD : Hid (Ord zs o) := by rw [← ho]; exact ordN_ord zs
  have HNW : ∀ w, RowI w a1 zs c1 → _ := fun w hw => newest_any a1 zs c1 w hw hz
  rw [ho] at HNW ⊢
  have HNW' : Hid _ := HNW
  have HH1 : Hid (RowI w a1 zs c1) := h1
  have HH3 : Hid (RowR w a3 rs c3) := h3
  clear ho HNW h1 h3
  obtain ⟨L, hmin, hLn, hLt⟩ : ∃ L : Nat, min last (zs.length : Int) = (L : Int) ∧ L ≤ zs.length ∧ Hid (L = min last.toNat zs.length) := ⟨min last.toNat zs.length, by omega, by omega, rfl⟩
  go_enter Tryz.func64, Tryz.ntmps64
  go_wp2_with fail
  refine HT1.mono ?_
  rintro e w1 ⟨rfl, hw⟩
  rw [hw]
  clear hw
  go_wp2_with fail
  refine HT2.mono ?_
  rintro e w2 ⟨rfl, hw⟩
  rw [hw]
  clear hw
  go_wp2_with fail
  refine HR3.mono ?_
  rintro e w3 ⟨rfl, hb3⟩
  have hB3 : Below w.heap.size w w3 := hb0.trans (hb3.mono (by omega))
  clear HT1 HT2 HR3 hb0 hb3
  go_wp2_with fail
  refine (HNW'.out _ (HH1.out.below hB3)).mono ?_
  rintro e w4 ⟨g1, rfl, ho4, hb4⟩
  have hg1 := ho4.lt g1 rfl
  have hB4 : Below w.heap.size w w4 := hB3.trans (hb4.mono hB3.size)
  clear HNW' hb4
  go_wp2_with (at_make; refine wpList_make_full _ rfl _ _ 140 rfl w4.heap.size 4 i0 _ 1 Tryz.underlying140 hi hz0 hz1 _ _ _ _ zs.length rfl rfl rfl rfl (by rw [hz2]; omega) (by unfold maxLen; omega) (Nat.le_refl _) ?_; intro w5 ho5 hg5)
  rw [bs_nil] at ho5
  have HK0 : Hid (KI w g1 w4.heap.size zs.length o [] w5) := ⟨hB4.grown hg5 hB4.size (fun k e => by cases e), ho5, own_base (ho4.kept hg5 (Or.inr (by simp [Value.ownBlock]))) hB3.size, Nat.le_trans hB3.size hg1.1, hg1.2⟩
  obtain ⟨G, hG⟩ : ∃ G, w4.heap.size = G := ⟨_, rfl⟩
  rw [hG] at HK0 ⊢
  clear hG ho5 hg5 ho4 hg1 hB4 hmin
  go_loopw [49] (fun i wr => ∃ k : Nat, k ≤ L ∧ i = .int .i64 k ∧ Hid (KI w g1 G zs.length o (o.take k) wr)) (fun i _ => L - (intOf i).toNat)
  case atStart => exact ⟨0, Nat.zero_le _, rfl, HK0⟩
  case round =>
    obtain ⟨k, hk, rfl, HK⟩ := hrel
    clear HK0
    by_cases hlt : k < L
    · have hko : k < o.length := by omega
      have d1 := HK.out.place k hko
      have hpk := HOP.out _ (List.getElem_mem hko)
      have H2 : Hid (KI w g1 G zs.length o (o.take (k + 1)) (wr.setCell ⟨G, o[k], none⟩ (.bool true))) := by
        rw [← take_next o k hko]; exact HK.out.mark _
      obtain ⟨⟨u, d2⟩, d3⟩ := HK.out.seat o[k] hpk
      obtain ⟨p, hp⟩ : ∃ p, o[k] = p := ⟨_, rfl⟩
      rw [hp] at d1 d2 d3 hpk H2
      clear HK hp
      go_wp2
      go_roundw
      case rel => exact ⟨k + 1, by omega, by go_num, H2⟩
      case measure => simp [intOf]; omega
    · have hkL : k = L := by omega
      have HK1 : Hid (KI w g1 G zs.length o (o.take L) wr) := by rw [← hkL]; exact HK
      obtain ⟨F, hF⟩ : ∃ F, fut now zs o = F := ⟨_, rfl⟩
      have hFn : F ≤ zs.length := by rw [← hF, ← hol]; exact fut_le now zs o
      have HC := count_any now a1 (some ⟨g1, 0, none⟩) zs o c1 zs.length wr (HH1.out.below HK1.out.1) HK1.out.order hz (by omega) HOP.out
      rw [hF, hol] at HC
      have HF : Hid (fut now zs o = F) := hF
      clear hF hkL HK
      go_wp2_with (go_at_call 98; refine HC.mono ?_; rintro e w6 ⟨rfl, hw⟩; rw [hw]; clear hw)
      clear HC
      go_loopw [65] (fun i wr => ∃ k : Nat, k ≤ F ∧ i = .int .i64 k ∧ Hid (KI w g1 G zs.length o (o.take L ++ o.take k) wr)) (fun i _ => F - (intOf i).toNat)
      case atStart => exact ⟨0, Nat.zero_le _, rfl, by rw [List.take_zero, List.append_nil]; exact HK1⟩
      case round =>
        rename_i w6 _
        obtain ⟨k, hk, rfl, HK⟩ := hrel
        clear HK1
        by_cases hlt : k < F
        · have hko : k < o.length := by omega
          have d1 := HK.out.place k hko
          have hpk := HOP.out _ (List.getElem_mem hko)
          have H2 : Hid (KI w g1 G zs.length o (o.take L ++ o.take (k + 1)) (wr.setCell ⟨G, o[k], none⟩ (.bool true))) := by
            rw [← take_next o k hko, ← List.append_assoc]; exact HK.out.mark _
          obtain ⟨⟨u, d2⟩, d3⟩ := HK.out.seat o[k] hpk
          obtain ⟨p, hp⟩ : ∃ p, o[k] = p := ⟨_, rfl⟩
          rw [hp] at d1 d2 d3 hpk H2
          clear HK hp
          go_wp2
          go_roundw
          case rel => exact ⟨k + 1, by omega, by go_num, H2⟩
          case measure => simp [intOf]; omega
        · have hkF : k = F := by omega
          have HK2 : Hid (KI w g1 G zs.length o (o.take L ++ o.take F) wr) := by rw [← hkF]; exact HK
          clear hkF HK
          go_wp2
          go_loopw [75] (fun i wr => ∃ k : Nat, k ≤ rs.length ∧ i = .int .i64 k ∧ Hid (KI w g1 G zs.length o (o.take L ++ o.take F ++ (rs.take k).flatMap fun r => rm (st now zs r.2) r.1 (o.drop F) (-1)) wr)) (fun i _ => rs.length - (intOf i).toNat)
          case atStart => exact ⟨0, Nat.zero_le _, rfl, by rw [List.take_zero, List.flatMap_nil, List.append_nil]; exact HK2⟩
          case round =>
            obtain ⟨k, hk, rfl, HK⟩ := hrel
            clear HK2
            by_cases hlt : k < rs.length
            · obtain ⟨b3, off3, hb3, hc3⟩ := (HH3.out.below HK.out.1).2 (by omega)
              subst hb3
              obtain ⟨d1, d2⟩ := hc3 k hlt
              have l3 := HH3.out.1
              obtain ⟨x, hx⟩ : ∃ x, rs[k] = x := ⟨_, rfl⟩
              rw [hx] at d1 d2
              obtain ⟨c, q⟩ := x
              simp only at d1 d2
              have HX : Hid (rs[k] = (c, q)) := hx
              clear hc3 hx
              have hr' : okR (c, q) = true := by
                have : (c, q) ∈ rs := by rw [← HX.out]; exact List.getElem_mem hlt
                simp only [okRs, Bool.and_eq_true] at x4
                exact List.all_eq_true.1 x4.2 _ this
              have HRU : Hid (∀ W, KI w g1 G zs.length o (o.take L ++ o.take F ++ (rs.take k).flatMap fun r => rm (st now zs r.2) r.1 (o.drop F) (-1)) W → Calls Tryz.prog 99 #[.slice (some ⟨G, 0, none⟩) zs.length zs.length, .int .i64 now, .slice a1 zs.length c1, .slice (if zs.length = F then some ⟨g1, 0, none⟩ else some ⟨g1, F, none⟩) (zs.length - F) (zs.length - F), .agg #[.int .i64 c, .int .i64 q]] W fun e w' =>
                  e = .returned (.tuple #[]) ∧ KI w g1 G zs.length o (o.take L ++ o.take F ++ (rs.take (k + 1)).flatMap fun r => rm (st now zs r.2) r.1 (o.drop F) (-1)) w' ∧ W.grownBy w' (some G)) := fun W hW => by
                have := hW.ruled (c := c) (q := q) (now := now) HH1.out HORD.out hz hol x1 x2 hr' F HF.out
                rw [List.take_succ_eq_append_getElem hlt, List.flatMap_append, HX.out]
                simpa using this
              have hGl : G < wr.heap.size := (HK.out.2.1.lt G rfl).2
              clear HX hr'
              by_cases hFe : zs.length = F
              · rw [if_pos hFe] at HRU
                subst hFe
                simp only [Nat.sub_self] at HRU
                go_wp2
                go_region_held3 (fun w' => w'.cell? ⟨wr.heap.size, 0, none⟩ = some (.int .i64 c) ∧ w'.cell? ⟨wr.heap.size, 1, none⟩ = some (.int .i64 q)) (go_keep)
                  (first | (go_at_call 99; refine (HRU.out _ ((HK.out.alloc _).drewN 1)).mono ?_; rintro e w7 ⟨rfl, hk7, hg7⟩; have z0 : w7.cell? ⟨wr.heap.size, 0, none⟩ = some (.int .i64 c) := hg7.cell (by simp) (by simp; omega); have z1 : w7.cell? ⟨wr.heap.size, 1, none⟩ = some (.int .i64 q) := hg7.cell (by simp) (by simp; omega); have HK7 : Hid _ := hk7; clear hk7 hg7))
                go_wp2
                go_roundw
                case rel => exact ⟨k + 1, by omega, by go_num, HK7⟩
                case measure => simp [intOf]; omega
              · rw [if_neg hFe] at HRU
                go_wp2
                go_region_held3 (fun w' => w'.cell? ⟨wr.heap.size, 0, none⟩ = some (.int .i64 c) ∧ w'.cell? ⟨wr.heap.size, 1, none⟩ = some (.int .i64 q)) (go_keep)
                  (first | (go_at_call 99; refine (HRU.out _ ((HK.out.alloc _).drewN 1)).mono ?_; rintro e w7 ⟨rfl, hk7, hg7⟩; have z0 : w7.cell? ⟨wr.heap.size, 0, none⟩ = some (.int .i64 c) := hg7.cell (by simp) (by simp; omega); have z1 : w7.cell? ⟨wr.heap.size, 1, none⟩ = some (.int .i64 q) := hg7.cell (by simp) (by simp; omega); have HK7 : Hid _ := hk7; clear hk7 hg7))
                go_wp2
                go_roundw
                case rel => exact ⟨k + 1, by omega, by go_num, HK7⟩
                case measure => simp [intOf]; omega
            · have hkr : k = rs.length := by omega
              have HE : Hid (∃ g, Ending.returned (.tuple #[.slice (some ⟨G, 0, none⟩) zs.length zs.length, .int .i64 0]) = .returned (.tuple #[.slice (some ⟨g, 0, none⟩) zs.length zs.length, .int .i64 0]) ∧ wr.ownsRow w.heap.size 4 1 (.slice (some ⟨g, 0, none⟩) zs.length zs.length) zs.length (bs zs.length (prS now zs last.toNat rs o)) ∧ Below w.heap.size w wr) := by
                refine ⟨G, rfl, ?_, HK.out.1⟩
                have h := HK.out.2.1
                rw [hkr, List.take_length, ← HF.out, (take_fut now zs o).1, (take_fut now zs o).2, take_last o L last.toNat (by rw [hol]; exact hLt.out)] at h
                exact own_base h (by have := HK.out.2.2.2.1; have := HK.out.2.2.2.2; omega)
              clear HK hkr
              go_wp2
              go_ret2
              exact HE.out
end Go.Proofs.YthdhegmlknpllabGreatDoor.Kp
