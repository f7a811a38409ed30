import Derived.Shelf.SlSortCmp.WholeK
import Derived.Test.YthdhegmlknpllaaGreatProg
import Derived.Shelf.SlGeneric
import Derived.Test.YthdhegmlknpllaaGreatM05
import Derived.Lib.OwnBridge
/-
  The library's sort of structs, laid at this translation.
-/
namespace Go.Proofs
open Go.Shelf
def Tryz.sortM_ren : Go.Shelf.Ren := ⟨fun | 6 => 70 | 15 => 106 | 14 => 105 | 28 => 129 | 29 => 130 | 20 => 121 | 21 => 122 | 22 => 123 | 23 => 124 | 24 => 125 | 25 => 126 | 26 => 127 | 27 => 128 | 46 => 132 | 47 => 133 | 48 => 134 | 49 => 135 | 50 => 136 | 57 => 137 | n => n, fun | 22 => 73 | 24 => 125 | 25 => 127 | 3 => 3 | 39 => 107 | 0 => 0 | 53 => 67 | 55 => 181 | 4 => 4 | 46 => 174 | 45 => 173 | 50 => 131 | 5 => 5 | 9 => 9 | 66 => 182 | 70 => 186 | 76 => 188 | 77 => 189 | n => n, fun | n => n⟩
set_option maxRecDepth 100000 in
theorem Tryz.sortM : Go.Proofs.SlLaysF0.n6 Tryz.prog Tryz.sortM_ren := {
  mixed := by kernel_rfl
  f6 := ⟨Tryz.f70.name, by decide, Tryz.func70.trans (congrArg some (by kernel_rfl))⟩
  f14 := ⟨Tryz.f105.name, by decide, Tryz.func105.trans (congrArg some (by kernel_rfl))⟩
  f15 := Tryz.func106.trans (congrArg some (by kernel_rfl))
  f20 := ⟨Tryz.f121.name, by decide, Tryz.func121.trans (congrArg some (by kernel_rfl))⟩
  f21 := ⟨Tryz.f122.name, by decide, Tryz.func122.trans (congrArg some (by kernel_rfl))⟩
  f22 := ⟨Tryz.f123.name, by decide, Tryz.func123.trans (congrArg some (by kernel_rfl))⟩
  f23 := ⟨Tryz.f124.name, by decide, Tryz.func124.trans (congrArg some (by kernel_rfl))⟩
  f24 := ⟨Tryz.f125.name, by decide, Tryz.func125.trans (congrArg some (by kernel_rfl))⟩
  f25 := ⟨Tryz.f126.name, by decide, Tryz.func126.trans (congrArg some (by kernel_rfl))⟩
  f26 := ⟨Tryz.f127.name, by decide, Tryz.func127.trans (congrArg some (by kernel_rfl))⟩
  f27 := ⟨Tryz.f128.name, by decide, Tryz.func128.trans (congrArg some (by kernel_rfl))⟩
  f28 := Tryz.func129.trans (congrArg some (by kernel_rfl))
  f29 := Tryz.func130.trans (congrArg some (by kernel_rfl))
  f46 := ⟨Tryz.f132.name, by decide, Tryz.func132.trans (congrArg some (by kernel_rfl))⟩
  f47 := Tryz.func133.trans (congrArg some (by kernel_rfl))
  f48 := Tryz.func134.trans (congrArg some (by kernel_rfl))
  f49 := ⟨Tryz.f135.name, by decide, Tryz.func135.trans (congrArg some (by kernel_rfl))⟩
  f50 := ⟨Tryz.f136.name, by decide, Tryz.func136.trans (congrArg some (by kernel_rfl))⟩
  f57 := ⟨Tryz.f137.name, by decide, Tryz.func137.trans (congrArg some (by kernel_rfl))⟩
  t0 := Tryz.underlying0
  a0 := Tryz.isAgg0
  z0 := Tryz.sizeOf0
  v0 := Tryz.zeroValue0
  t3 := Tryz.underlying3
  a3 := Tryz.isAgg3
  z3 := Tryz.sizeOf3
  v3 := Tryz.zeroValue3
  t4 := Tryz.underlying4
  a4 := Tryz.isAgg4
  z4 := Tryz.sizeOf4
  v4 := Tryz.zeroValue4
  t5 := Tryz.underlying5
  a5 := Tryz.isAgg5
  z5 := Tryz.sizeOf5
  v5 := Tryz.zeroValue5
  t9 := Tryz.underlying9
  a9 := Tryz.isAgg9
  z9 := Tryz.sizeOf9
  v9 := Tryz.zeroValue9
  t22 := Tryz.underlying73
  a22 := Tryz.isAgg73
  z22 := Tryz.sizeOf73
  v22 := Tryz.zeroValue73
  t25 := Tryz.underlying127
  a25 := Tryz.isAgg127
  z25 := Tryz.sizeOf127
  v25 := Tryz.zeroValue127
  t39 := Tryz.underlying107
  a39 := Tryz.isAgg107
  z39 := Tryz.sizeOf107
  v39 := Tryz.zeroValue107
  t45 := Tryz.underlying173
  a45 := Tryz.isAgg173
  z45 := Tryz.sizeOf173
  v45 := Tryz.zeroValue173
  t46 := Tryz.underlying174
  a46 := Tryz.isAgg174
  z46 := Tryz.sizeOf174
  v46 := Tryz.zeroValue174
  t50 := Tryz.underlying131
  a50 := Tryz.isAgg131
  z50 := Tryz.sizeOf131
  v50 := Tryz.zeroValue131
  t53 := Tryz.underlying67
  a53 := Tryz.isAgg67
  z53 := Tryz.sizeOf67
  v53 := Tryz.zeroValue67
  t55 := Tryz.underlying181
  a55 := Tryz.isAgg181
  z55 := Tryz.sizeOf181
  v55 := Tryz.zeroValue181
  t66 := Tryz.underlying182
  a66 := Tryz.isAgg182
  z66 := Tryz.sizeOf182
  v66 := Tryz.zeroValue182
  t70 := Tryz.underlying186
  a70 := Tryz.isAgg186
  z70 := Tryz.sizeOf186
  v70 := Tryz.zeroValue186
  t76 := Tryz.underlying188
  a76 := Tryz.isAgg188
  z76 := Tryz.sizeOf188
  v76 := Tryz.zeroValue188
  t77 := Tryz.underlying189
  a77 := Tryz.isAgg189
  z77 := Tryz.sizeOf189
  v77 := Tryz.zeroValue189 }
end Go.Proofs

/-
  slices.SortFunc (70) of marks.
-/
namespace Go.Proofs.YthdhegmlknpllaaGreat
open Go.RowKit Go.Maps Go.MuLone Go.Sort Go.Lib Go.Shelf

/-- A mark whose place is a small number. -/
def Mk : Type := { x : Int × Int // 0 ≤ x.2 ∧ x.2 ≤ 1000000000000 }
def encM (x : Mk) : List Value := mkCells x.1
def cfM (x y : Mk) : Int := x.1.2 - y.1.2
theorem ltM (x y : Mk) : ltOf cfM x y = decide (x.1.2 < y.1.2) := by
  unfold ltOf cfM
  by_cases h : x.1.2 < y.1.2
  · rw [decide_eq_true h]; exact decide_eq_true (by omega)
  · rw [decide_eq_false h]; exact decide_eq_false (by omega)
theorem swoM : SWO (ltOf cfM) where
  irrefl x := by rw [ltM]; simp
  trans x y z h1 h2 := by rw [ltM] at *; simp at *; omega
  ntrans x y z h1 h2 := by rw [ltM] at *; simp at *; omega

set_option maxHeartbeats 400000 in
theorem clo_mk (x y : Mk) (w : World) :
    Calls Tryz.prog 71 #[.agg #[.int .i64 x.1.1, .int .i64 x.1.2], .agg #[.int .i64 y.1.1, .int .i64 y.1.2]] w fun e w' => e = .returned (.int .i64 (cfM x y)) ∧ w' = (w.alloc (.cells #[.int .i64 x.1.1, .int .i64 x.1.2] 125)).alloc (.cells #[.int .i64 y.1.1, .int .i64 y.1.2] 125) := by
  have h1 := x.2
  have h2 := y.2
  obtain ⟨a, ha⟩ : ∃ a, x.1.2 = a := ⟨_, rfl⟩
  obtain ⟨b, hb⟩ : ∃ b, y.1.2 = b := ⟨_, rfl⟩
  unfold cfM
  rw [ha, hb]
  rw [ha] at h1
  rw [hb] at h2
  have hwr : IntKind.i64.wrap (a - b) = a - b := wrap_fit ⟨by omega, by omega⟩
  go_enter Tryz.func71, Tryz.ntmps71
  go_wp2
  go_ret
  exact ⟨rfl, rfl⟩

section
variable [Inhabited Mk]
theorem flatC (d : Array Mk) (j : Nat) (hj : j < d.size * 2) : (mkC (d.toList.map fun x => x.1))[j]? = some (flatK encM 2 d)[j]! := by
  rw [get_flatK encM 2 d j hj]
  have hi : j / 2 < d.size := by omega
  have hl : j / 2 < (d.toList.map fun x => x.1).length := by simpa using hi
  have h1 := flat_get (f := mkCells) (k := 2) (fun _ => rfl) (d.toList.map fun x => x.1) (j / 2) hl (j % 2) (Nat.mod_lt _ (by omega))
  rw [show j / 2 * 2 + j % 2 = j by omega] at h1
  show ((d.toList.map fun x => x.1).flatMap mkCells)[j]? = _
  rw [h1]
  have h2 : (d.toList.map fun x => x.1)[j / 2] = (d[j / 2]!).1 := by
    rw [List.getElem_map, Array.getElem_toList, getElem!_pos d _ hi]
  rw [h2]
  show (mkCells (d[j / 2]!).1)[j % 2]? = some (mkCells (d[j / 2]!).1)[j % 2]!
  have hm : j % 2 < 2 := Nat.mod_lt _ (by omega)
  generalize (d[j / 2]!).1 = y
  generalize j % 2 = r at hm
  match r, hm with
  | 0, _ => rfl
  | 1, _ => rfl

theorem own_putM {w : World} {B g n cap q : Nat} {l : List (Int × Int)} (h : w.ownsRow B 125 2 (.slice (some ⟨g, 0, none⟩) n cap) n (mkC l)) (d : Array Mk) (hd : d.size = n) :
    (putRowK encM 2 (Sort.ahead w q) g 0 d).ownsRow B 125 2 (.slice (some ⟨g, 0, none⟩) n cap) n (mkC (d.toList.map fun x => x.1)) := by
  rcases h.2 with ⟨e0, _⟩ | ⟨g', cap', cur, e0, hb, hg, hn, hm, hs, ht⟩
  · cases e0
  · injection e0 with e1 _ e3
    injection e1 with e1
    injection e1 with e1
    subst e1; subst e3
    refine ⟨by rw [mkC_len]; simp [hd], .inr ⟨g, cap, putCells id 0 (flatK encM 2 d) cur, rfl, hb, ?_, hn, hm, by simpa [putCells] using hs, ?_⟩⟩
    · simp [putRowK, putRow, mapBlock, Sort.ahead, Array.getElem?_modify, hg, onCells]
    · apply List.ext_getElem?
      intro j
      rw [List.getElem?_take, Array.getElem?_toList]
      by_cases hj : j < n * 2
      · have hjc : j < cur.size := by
          have := Nat.mul_le_mul_right 2 hn
          omega
        rw [if_pos hj, flatC d j (by rw [hd]; exact hj)]
        simp only [putCells, Array.getElem?_mapIdx, Array.getElem?_eq_getElem hjc, Option.map_some]
        rw [if_pos ⟨Nat.zero_le _, by rw [size_flatK, hd]; omega⟩]
        rfl
      · rw [if_neg hj, List.getElem?_eq_none (by rw [mkC_len]; simp [hd]; omega)]

theorem gb_putM (w : World) (g q : Nat) (d : Array Mk) (os : Array Obj) : w.grownBy (grow (putRowK encM 2 (Sort.ahead w q) g 0 d) os) (some g) := by
  refine ⟨rfl, rfl, rfl, by simp [grow, putRowK, putRow, mapBlock, Sort.ahead], fun k hk hn => ?_⟩
  have hne : g ≠ k := fun e => hn (by rw [e])
  have hk2 : k < (putRowK encM 2 (Sort.ahead w q) g 0 d).heap.size := by simpa [putRowK, putRow, mapBlock, Sort.ahead] using hk
  rw [heap_grow_old _ _ hk2]
  simp [putRowK, putRow, mapBlock, Sort.ahead, Array.getElem?_modify, hne]

end
set_option maxRecDepth 100000 in
theorem sort_marks (B g cap : Nat) (l : List (Int × Int)) (W : World) (hl : ∀ x ∈ l, 0 ≤ x.2 ∧ x.2 ≤ 1000000000000) (h0 : l.length ≤ 100) (h : W.ownsRow B 125 2 (.slice (some ⟨g, 0, none⟩) l.length cap) l.length (mkC l)) :
    Calls Tryz.prog 70 #[.slice (some ⟨g, 0, none⟩) l.length cap, .func (.func 71) #[] #[]] W fun e w' => e = .returned (.tuple #[]) ∧ ∃ l', l'.Perm l ∧ l'.Pairwise (fun a b => a.2 ≤ b.2) ∧ w'.ownsRow B 125 2 (.slice (some ⟨g, 0, none⟩) l.length cap) l.length (mkC l') ∧ W.grownBy w' (some g) := by
  haveI : Inhabited Mk := ⟨⟨(0, 0), by decide⟩⟩
  obtain ⟨d, hd⟩ : ∃ d : Array Mk, d.toList.map (fun x => x.1) = l := ⟨(l.attach.map fun x => (⟨x.1, hl x.1 x.2⟩ : Mk)).toArray, by
    show ((l.attach.map fun x => (⟨x.1, hl x.1 x.2⟩ : Mk)).map fun x => x.1) = l
    rw [List.map_map]
    exact List.attach_map_subtype_val l⟩
  have hsz : d.size = l.length := by rw [← hd]; simp
  have hlt : g < W.heap.size := (h.lt g rfl).2
  have hH : HoldsK encM 2 W g 0 d := fun j hj => by
    rw [size_flatK] at hj
    have h1 := h.cellAt j (by rw [← hsz]; exact hj)
    rw [Nat.zero_add]
    refine ⟨?_, h.frozenAt _⟩
    rw [h1, ← hd]
    exact flatC d j hj
  have hc := AnyQ.slices_SortFunc (P := Tryz.prog) (ρ := Tryz.sortM_ren) Tryz.sortM 2 Tryz.isAgg125 Tryz.sizeOf125 encM (fun _ => rfl) (fun x v hv => by
      simp [encM, mkCells] at hv
      rcases hv with rfl | rfl <;> rfl) cfM swoM 71 #[] g 0 cap d W (enters_of Tryz.func71 (by kernel_rfl) rfl) (fun m os dk _ x y => (clo_mk x y _).mono fun e w' ⟨he, hw⟩ => ⟨he, 0, #[.cells #[.int .i64 x.1.1, .int .i64 x.1.2] 125, .cells #[.int .i64 y.1.1, .int .i64 y.1.2] 125], by
        rw [hw, alloc_eq_grow, alloc_eq_grow, grow_grow]
        rfl⟩) hH hlt (by rw [hsz]; omega)
  rw [hsz] at hc
  refine hc.mono ?_
  rintro e w' ⟨he, d', n, os, hp, hs, rfl⟩
  have hd' : d'.size = l.length := hp.1.trans hsz
  refine ⟨he, d'.toList.map fun x => x.1, ?_, ?_, ?_, gb_putM W g n d' os⟩
  · have h3 := hp.2.2
    rw [← hsz] at h3
    have e1 : (d'.extract 0 d.size).toList = d'.toList := by
      rw [← hp.1]
      simp
    have e2 : (d.extract 0 d.size).toList = d.toList := by simp
    rw [e1, e2] at h3
    rw [← hd]
    exact h3.map _
  · rw [List.pairwise_map, List.pairwise_iff_getElem]
    intro i j hi hj hij
    have hi' : i < d'.size := by simpa using hi
    have hj' : j < d'.size := by simpa using hj
    have := hs i j (Nat.zero_le _) hij (by omega)
    rw [ltM, getElem!_pos d' i hi', getElem!_pos d' j hj'] at this
    simp only [decide_eq_false_iff_not] at this
    simp only [Array.getElem_toList]
    omega
  · have h3 := own_putM (q := n) h d' hd'
    exact own_of_block h3 (fun k hk => by
      have hk2 : k < (putRowK encM 2 (Sort.ahead W n) g 0 d').heap.size := (h3.lt k hk).2
      exact heap_grow_old _ _ hk2)
end Go.Proofs.YthdhegmlknpllaaGreat
