/-
  The walk of tether/grid.newestFirst (18).
-/
import Derived.Test.YtikbfhhkkplpbaaClo
import Derived.Test.YtikbfhhkkplpbaaMay
import Derived.Lib.OwnBridge
import Derived.Lib.AppendIntMem
namespace Go.Proofs.Ytikbfhhkkplpbaa
open Go.RowKit Pl Go.Sort Go.Lib Go.Shelf

theorem info3 : (Try.prog.info? 3).map (fun i => (i.zero, i.size, i.bytes)) = some (some (.int .i64 0), 1, 8) := by kernel_rfl

def encN (n : Nat) (i : Fin n) : Value := .int .i64 (i.val : Int)
def cfN (zs : List Int) (x y : Fin zs.length) : Int := orI (cmpI (tm zs y) (tm zs x)) (cmpI (y.val : Int) (x.val : Int))

theorem ltN (zs : List Int) (x y : Fin zs.length) : ltOf (cfN zs) x y = nw zs x y := by
  unfold ltOf cfN orI cmpI nw
  by_cases h1 : tm zs y < tm zs x
  · simp [h1]
  · by_cases h2 : tm zs x < tm zs y
    · have h3 : ¬ tm zs x = tm zs y := by omega
      simp [h1, h2, h3]
    · have h3 : tm zs x = tm zs y := by omega
      by_cases h4 : y.val < x.val
      · have h5 : (y.val : Int) < x.val := by omega
        simp [h3, h4, h5]
      · have h5 : ¬ (y.val : Int) < x.val := by omega
        by_cases h6 : (x.val : Int) < y.val
        · simp [h3, h4, h5, h6]
        · simp [h3, h4, h5, h6]

theorem swoN (zs : List Int) : SWO (ltOf (cfN zs)) where
  irrefl x := by rw [ltN]; exact nw_irr zs x
  trans x y z h1 h2 := by rw [ltN] at *; exact nw_trans zs x y z h1 h2
  ntrans x y z h1 h2 := by
    rw [ltN] at *
    simp only [nw, Bool.or_eq_false_iff, Bool.and_eq_false_iff, decide_eq_false_iff_not] at h1 h2 ⊢
    omega
theorem totN (zs : List Int) (x y : Fin zs.length) (h1 : ltOf (cfN zs) x y = false) (h2 : ltOf (cfN zs) y x = false) : x = y := by
  rw [ltN] at *
  apply Fin.ext
  by_cases h : x.val = y.val
  · exact h
  · rcases nw_total zs x y h with e | e
    · rw [h1] at e; cases e
    · rw [h2] at e; cases e

/-- The places, sorted. -/
def srt (zs : List Int) : List (Fin zs.length) := (List.finRange zs.length).mergeSort fun x y => !ltOf (cfN zs) y x
def ordN (zs : List Int) : List Nat := (srt zs).map (·.val)

theorem fin_range (n : Nat) : (List.finRange n).map (·.val) = List.range n := by
  apply List.ext_getElem
  · simp
  · intro i h1 h2; simp
theorem srt_len (zs : List Int) : (srt zs).length = zs.length := by simp [srt]

theorem ordN_ord (zs : List Int) : Ord zs (ordN zs) := by
  have hp : (srt zs).Perm (List.finRange zs.length) := List.mergeSort_perm _ _
  have hperm : (ordN zs).Perm (List.range zs.length) := by
    rw [← fin_range]
    exact hp.map _
  refine ⟨hperm, ?_⟩
  have hs : (srt zs).Pairwise fun x y => (!ltOf (cfN zs) y x) = true := by
    apply List.pairwise_mergeSort
    · intro a b c h1 h2
      simp only [Bool.not_eq_true'] at h1 h2 ⊢
      exact (swoN zs).ntrans c b a h2 h1
    · intro a b
      cases h : ltOf (cfN zs) b a with
      | false => simp
      | true =>
        have : ltOf (cfN zs) a b = false := by rw [ltN] at h ⊢; exact nw_asymm zs b a h
        simp [this]
  have hnd : (srt zs).Pairwise (· ≠ ·) := by
    have : (ordN zs).Nodup := hperm.nodup_iff.2 List.nodup_range
    exact (List.pairwise_map.1 this).imp fun {a b} h e => h (by rw [e])
  rw [ordN, List.pairwise_map]
  refine (hs.and hnd).imp fun {a b} h => ?_
  have h1 : ltOf (cfN zs) b a = false := by simpa using h.1
  rw [ltN] at h1
  have : a.val ≠ b.val := fun e => h.2 (Fin.ext e)
  rcases nw_total zs a b this with x | x
  · exact x
  · rw [h1] at x; cases x

def ini (n k : Nat) : List Value := (List.range n).map fun i => if i < k then .int .i64 (i : Int) else .int .i64 0
theorem ini_len (n k : Nat) : (ini n k).length = n := by simp [ini]
theorem ini_set (n k : Nat) : (ini n k).set k (.int .i64 (k : Int)) = ini n (k + 1) := by
  apply List.ext_getElem
  · simp [ini]
  · intro i h1 h2
    simp only [ini, List.getElem_set, List.getElem_map, List.getElem_range]
    by_cases e : k = i
    · subst e; simp
    · rw [if_neg e]
      by_cases h : i < k
      · rw [if_pos h, if_pos (by omega)]
      · rw [if_neg h, if_neg (by omega)]
theorem ini_zero (n : Nat) : (madeCells (Value.int .i64 0).cells (n * 1)).toList = ini n 0 := by
  apply List.ext_getElem
  · simp [madeCells, ini]
  · intro i h1 h2
    simp [madeCells, ini, Value.cells, Nat.mod_one]
theorem ini_full (n : Nat) : ini n n = (List.finRange n).map (encN n) := by
  apply List.ext_getElem
  · simp [ini]
  · intro i h1 h2
    have : i < n := by simpa [ini] using h1
    simp [ini, encN, this]

def encO (o : List Nat) : List Value := o.map fun (i : Nat) => .int .i64 (i : Int)
theorem encO_srt (zs : List Int) : (srt zs).map (encN zs.length) = encO (ordN zs) := by
  simp [encO, ordN, encN, Function.comp_def]

/-- The comparison's contract in every world that the sort passes through. -/
theorem lays (zs : List Int) [Inhabited (Fin zs.length)] (ao : Option Addr) (cap bx g : Nat) (W : World) (hW : RowI W ao zs cap) (hbx : W.cell? ⟨bx, 0, none⟩ = some (.slice ao zs.length cap)) (hg : bx ≠ g) (hne : ∀ b off, ao = some ⟨b, off, none⟩ → b ≠ g) :
    CmpLays1 Try.prog 22 #[.pointer (some ⟨bx, 0, none⟩)] (encN zs.length) (cfN zs) g 0 zs.length W := by
  intro m os dk _ x y
  have hn : 0 < zs.length := Nat.lt_of_le_of_lt (Nat.zero_le _) x.2
  obtain ⟨b, off, rfl, hc⟩ := hW.2 hn
  have old : ∀ a : Addr, a.block ≠ g → ∀ v, W.cell? a = some v → (sortWorld (encN zs.length) W g 0 m dk os).cell? a = some v := fun a ha v hv => by
    unfold sortWorld
    have hl := World.block_lt_of_cell? _ _ hv
    rw [cell?_grow _ _ _ (by rw [size_putRow]; exact hl), cell?_putRow_other _ _ _ _ _ _ (Or.inl ha)]
    exact hv
  have hcl := clo_any bx b off zs.length cap x.val y.val (tm zs x) (tm zs y) (sortWorld (encN zs.length) W g 0 m dk os)
    (old _ hg _ hbx) x.2 y.2 hW.1 (old _ (hne b off rfl) _ (hc x.val x.2)) (old _ (hne b off rfl) _ (hc y.val y.2))
  refine hcl.mono fun e w' ⟨he, q, hq⟩ => ⟨he, q, #[.cells #[.int .i64 (cmpI (tm zs y) (tm zs x)), .int .i64 (cmpI (y.val : Int) (x.val : Int))] 3], ?_⟩
  rw [hq, alloc_eq_grow]
  rfl

theorem own_base {w : World} {base base' : Nat} {e : TypeId} {size : Nat} {v : Value} {n : Nat} {xs : List Value} (h : w.ownsRow base e size v n xs) (hb : base' ≤ base) : w.ownsRow base' e size v n xs := by
  refine ⟨h.1, ?_⟩
  rcases h.2 with hn | ⟨g, cap, cur, hv, hg, r⟩
  · exact Or.inl hn
  · exact Or.inr ⟨g, cap, cur, hv, by omega, r⟩

theorem below_grow {B : Nat} {a w : World} (h : Below B a w) (hB : B ≤ w.heap.size) (os : Array Obj) : Below B a (grow w os) :=
  h.trans ⟨rfl, rfl, rfl, by rw [Go.Sort.size_grow]; omega, fun k hk => heap_grow_old w os (by omega)⟩

/-- The sort, called with the places in their order: behind it they lie newest first. -/
theorem sort_any (zs : List Int) (ao : Option Addr) (cap bx g base : Nat) (W : World) (hW : RowI W ao zs cap) (hbx : W.cell? ⟨bx, 0, none⟩ = some (.slice ao zs.length cap)) (hg : bx ≠ g) (hne : 0 < zs.length → ∀ b off, ao = some ⟨b, off, none⟩ → b ≠ g)
    (hn : zs.length ≤ 17592186044416) (hown : W.ownsRow base 3 1 (.slice (some ⟨g, 0, none⟩) zs.length zs.length) zs.length (ini zs.length zs.length)) (hbase : base ≤ W.heap.size) :
    Calls Try.prog 21 #[.slice (some ⟨g, 0, none⟩) zs.length zs.length, .func (.func 22) #[] #[.pointer (some ⟨bx, 0, none⟩)]] W fun e w' => e = .returned (.tuple #[]) ∧ w'.ownsRow base 3 1 (.slice (some ⟨g, 0, none⟩) zs.length zs.length) zs.length (encO (ordN zs)) ∧ Below base W w' := by
  by_cases h0 : zs.length = 0
  · have hz : zs = [] := List.eq_nil_of_length_eq_zero h0
    subst hz
    have hc := AnyF.slices_SortFunc_none (P := Try.prog) (ρ := Try.sortL_ren) { Try.sortL with } (some ⟨g, 0, none⟩) 0 (.func (.func 22) #[] #[.pointer (some ⟨bx, 0, none⟩)]) W
    refine hc.mono fun e w' ⟨he, hw⟩ => ⟨he, ?_, ?_⟩
    · rw [hw, show encO (ordN []) = ini 0 0 by simp [encO, ordN, srt, ini]]; exact hown
    · rw [hw]; exact Below.refl _ _
  · haveI : Inhabited (Fin zs.length) := ⟨⟨0, by omega⟩⟩
    rw [ini_full] at hown
    obtain ⟨g', cap', hv, hbg, hlt, _, _, _, hH⟩ := holds_of_ownsRow hown (by simp)
    simp only [Value.slice.injEq, Option.some.injEq, Addr.mk.injEq, and_true, true_and] at hv
    obtain ⟨rfl, rfl⟩ := hv
    have hsz : (List.finRange zs.length).toArray.size = zs.length := by simp
    have hc := Any.slices_SortFunc_total (P := Try.prog) (ρ := Try.sortL_ren) Try.sortL (encN zs.length) (fun _ => rfl) (cfN zs) (swoN zs) 22 #[.pointer (some ⟨bx, 0, none⟩)] g 0 zs.length (List.finRange zs.length).toArray W
      (enters_of Try.func22 (by kernel_rfl) rfl) (by rw [hsz]; exact lays zs ao cap bx g W hW hbx hg (hne (by omega))) hH hlt (by rw [hsz]; omega) (totN zs)
    rw [hsz] at hc
    refine hc.mono fun e w' ⟨he, n, os, hw⟩ => ⟨he, ?_, ?_⟩
    · rw [hw]
      have h1 := ownsRow_putRow (enc := encN zs.length) (q := n) (k := zs.length) (ys := srt zs) hown (srt_len zs) (Nat.le_refl _)
      rw [List.take_of_length_le (by rw [srt_len]; exact Nat.le_refl _), encO_srt] at h1
      exact ownsRow_grow h1 0 os
    · rw [hw]
      exact below_grow (below_putRow (Below.refl _ _) hbg) (by rw [size_putRow]; exact hbase) os

set_option maxHeartbeats 1000000 in
theorem newest_any (ao : Option Addr) (zs : List Int) (cap : Nat) (w : World) (h : RowI w ao zs cap) (hn : zs.length ≤ 17592186044416) :
    Calls Try.prog 18 #[.slice ao zs.length cap] w fun e w' => ∃ g, e = .returned (.slice (some ⟨g, 0, none⟩) zs.length zs.length) ∧ w'.ownsRow w.heap.size 3 1 (.slice (some ⟨g, 0, none⟩) zs.length zs.length) zs.length (encO (ordN zs)) ∧ Below w.heap.size w w' := by
  obtain ⟨i0, hi, hz0, hz1, hz2⟩ := info_parts info3
  have hbx0 : (w.alloc (.cells #[.slice ao zs.length cap] 22)).cell? ⟨w.heap.size, 0, none⟩ = some (.slice ao zs.length cap) := by simp
  go_enter Try.func18, Try.ntmps18
  go_wp2_with (at_make; refine wpList_make_full _ rfl _ _ 22 rfl (w.heap.size + 1) 3 i0 _ 1 Try.underlying22 hi hz0 hz1 _ _ _ _ zs.length rfl rfl rfl rfl (by rw [hz2]; omega) (by unfold maxLen; omega) (by simp) ?_; intro w1 hown1 hgrow1)
  have hbl1 : Below (w.heap.size + 1) (w.alloc (.cells #[.slice ao zs.length cap] 22)) w1 := (Below.refl _ _).grown hgrow1 (by simp) (fun k e => by cases e)
  rw [ini_zero, show (w.alloc (.cells #[.slice ao zs.length cap] 22)).heap.size = w.heap.size + 1 from by simp] at hown1
  clear hgrow1
  go_loopw [10] (fun i wr => ∃ k : Nat, k ≤ zs.length ∧ i = .int .i64 k ∧ wr.ownsRow (w.heap.size + 1) 3 1 (.slice (some ⟨w.heap.size + 1, 0, none⟩) zs.length zs.length) zs.length (ini zs.length k) ∧ Below (w.heap.size + 1) (w.alloc (.cells #[.slice ao zs.length cap] 22)) wr) (fun i _ => zs.length - (intOf i).toNat)
  case atStart => exact ⟨0, Nat.zero_le _, rfl, hown1, hbl1⟩
  case round =>
    obtain ⟨k, hk, rfl, hown, hbl⟩ := hrel
    clear hown1 hbl1
    by_cases hlt : k < zs.length
    · have d1 : ∃ u, wr.cell? ⟨w.heap.size + 1, k, none⟩ = some u := by rw [hown.cellAt k (by omega)]; exact ⟨_, List.getElem?_eq_getElem (by rw [ini_len]; exact hlt)⟩
      obtain ⟨u, d1⟩ := d1
      have f1 : wr.frozen? ⟨w.heap.size + 1, k, none⟩ = false := hown.frozenAt _
      have s1 := hown.stored k (.int .i64 (k : Int))
      rw [ini_set] at s1
      have hb2 := hbl.setCell (p := ⟨w.heap.size + 1, k, none⟩) (by exact Nat.le_refl _) (.int .i64 (k : Int))
      have hE := s1.1
      clear hown s1 hbl h
      go_wp2
      go_roundw
      case rel => exact ⟨k + 1, by omega, by go_num, hE, hb2⟩
      case measure => simp [intOf]; omega
    · have hke : k = zs.length := by omega
      have hown2 : wr.ownsRow (w.heap.size + 1) 3 1 (.slice (some ⟨w.heap.size + 1, 0, none⟩) zs.length zs.length) zs.length (ini zs.length zs.length) := by rw [hke] at hown; exact hown
      have hB : Below w.heap.size w wr := ((Below.refl _ _).alloc (Nat.le_refl _) _).trans (hbl.mono (by omega))
      have hsz : w.heap.size + 1 ≤ wr.heap.size := by have := hbl.size; simp at this; omega
      have HS := sort_any zs ao cap w.heap.size (w.heap.size + 1) (w.heap.size + 1) wr (h.below hB) ((hbl.cell (p := ⟨w.heap.size, 0, none⟩) (by show w.heap.size < w.heap.size + 1; omega)).trans hbx0) (by omega)
        (fun h0 b off e => by
          intro eb
          obtain ⟨b', off', e', hc⟩ := h.2 h0
          rw [e'] at e
          simp at e
          have := World.block_lt_of_cell? _ _ (hc 0 h0)
          simp at this
          omega) hn hown2 hsz
      clear hown hown2 hke h
      go_wp2_with (go_at_call 21; refine HS.mono ?_; rintro e w2 ⟨rfl, ho2, hb2⟩)
      go_ret
      exact ⟨_, rfl, own_base ho2 (by omega), hB.trans (hb2.mono (by omega))⟩
end Go.Proofs.Ytikbfhhkkplpbaa
