import Derived.Shelf.SlSortCmp.WholeK
import Derived.Test.YthdhegmlknpllabGreatDoorProg
import Derived.Shelf.SlGeneric
import Derived.Test.YthdhegmlknpllabGreatDoorM19
import Derived.Lib.OwnBridge
/-
  The library's sort of structs, laid at this translation.
-/
namespace Go.Proofs
open Go.Shelf
def Tryz.sortM_ren : Go.Shelf.Ren := ⟨fun | 6 => 122 | 15 => 141 | 14 => 140 | 28 => 157 | 29 => 158 | 20 => 149 | 21 => 150 | 22 => 151 | 23 => 152 | 24 => 153 | 25 => 154 | 26 => 155 | 27 => 156 | 46 => 172 | 47 => 173 | 48 => 174 | 49 => 175 | 50 => 176 | 57 => 182 | n => n, fun | 22 => 84 | 24 => 120 | 25 => 190 | 3 => 3 | 39 => 94 | 0 => 0 | 53 => 76 | 55 => 219 | 4 => 4 | 46 => 212 | 45 => 211 | 50 => 184 | 5 => 5 | 9 => 9 | 66 => 225 | 70 => 229 | 76 => 239 | 77 => 240 | n => n, fun | n => n⟩
set_option maxRecDepth 100000 in
theorem Tryz.sortM : Go.Proofs.SlLaysF0.n6 Tryz.prog Tryz.sortM_ren := {
  mixed := by kernel_rfl
  f6 := ⟨Tryz.f122.name, by decide, Tryz.func122.trans (congrArg some (by kernel_rfl))⟩
  f14 := ⟨Tryz.f140.name, by decide, Tryz.func140.trans (congrArg some (by kernel_rfl))⟩
  f15 := Tryz.func141.trans (congrArg some (by kernel_rfl))
  f20 := ⟨Tryz.f149.name, by decide, Tryz.func149.trans (congrArg some (by kernel_rfl))⟩
  f21 := ⟨Tryz.f150.name, by decide, Tryz.func150.trans (congrArg some (by kernel_rfl))⟩
  f22 := ⟨Tryz.f151.name, by decide, Tryz.func151.trans (congrArg some (by kernel_rfl))⟩
  f23 := ⟨Tryz.f152.name, by decide, Tryz.func152.trans (congrArg some (by kernel_rfl))⟩
  f24 := ⟨Tryz.f153.name, by decide, Tryz.func153.trans (congrArg some (by kernel_rfl))⟩
  f25 := ⟨Tryz.f154.name, by decide, Tryz.func154.trans (congrArg some (by kernel_rfl))⟩
  f26 := ⟨Tryz.f155.name, by decide, Tryz.func155.trans (congrArg some (by kernel_rfl))⟩
  f27 := ⟨Tryz.f156.name, by decide, Tryz.func156.trans (congrArg some (by kernel_rfl))⟩
  f28 := Tryz.func157.trans (congrArg some (by kernel_rfl))
  f29 := Tryz.func158.trans (congrArg some (by kernel_rfl))
  f46 := ⟨Tryz.f172.name, by decide, Tryz.func172.trans (congrArg some (by kernel_rfl))⟩
  f47 := Tryz.func173.trans (congrArg some (by kernel_rfl))
  f48 := Tryz.func174.trans (congrArg some (by kernel_rfl))
  f49 := ⟨Tryz.f175.name, by decide, Tryz.func175.trans (congrArg some (by kernel_rfl))⟩
  f50 := ⟨Tryz.f176.name, by decide, Tryz.func176.trans (congrArg some (by kernel_rfl))⟩
  f57 := ⟨Tryz.f182.name, by decide, Tryz.func182.trans (congrArg some (by kernel_rfl))⟩
  t0 := Tryz.underlying0
  a0 := Tryz.isAgg0
  z0 := Tryz.sizeOf0
  v0 := Tryz.zeroValue0
  t3 := Tryz.underlying3
  a3 := Tryz.isAgg3
  z3 := Tryz.sizeOf3
  v3 := Tryz.zeroValue3
  t4 := Tryz.underlying4
  a4 := Tryz.isAgg4
  z4 := Tryz.sizeOf4
  v4 := Tryz.zeroValue4
  t5 := Tryz.underlying5
  a5 := Tryz.isAgg5
  z5 := Tryz.sizeOf5
  v5 := Tryz.zeroValue5
  t9 := Tryz.underlying9
  a9 := Tryz.isAgg9
  z9 := Tryz.sizeOf9
  v9 := Tryz.zeroValue9
  t22 := Tryz.underlying84
  a22 := Tryz.isAgg84
  z22 := Tryz.sizeOf84
  v22 := Tryz.zeroValue84
  t25 := Tryz.underlying190
  a25 := Tryz.isAgg190
  z25 := Tryz.sizeOf190
  v25 := Tryz.zeroValue190
  t39 := Tryz.underlying94
  a39 := Tryz.isAgg94
  z39 := Tryz.sizeOf94
  v39 := Tryz.zeroValue94
  t45 := Tryz.underlying211
  a45 := Tryz.isAgg211
  z45 := Tryz.sizeOf211
  v45 := Tryz.zeroValue211
  t46 := Tryz.underlying212
  a46 := Tryz.isAgg212
  z46 := Tryz.sizeOf212
  v46 := Tryz.zeroValue212
  t50 := Tryz.underlying184
  a50 := Tryz.isAgg184
  z50 := Tryz.sizeOf184
  v50 := Tryz.zeroValue184
  t53 := Tryz.underlying76
  a53 := Tryz.isAgg76
  z53 := Tryz.sizeOf76
  v53 := Tryz.zeroValue76
  t55 := Tryz.underlying219
  a55 := Tryz.isAgg219
  z55 := Tryz.sizeOf219
  v55 := Tryz.zeroValue219
  t66 := Tryz.underlying225
  a66 := Tryz.isAgg225
  z66 := Tryz.sizeOf225
  v66 := Tryz.zeroValue225
  t70 := Tryz.underlying229
  a70 := Tryz.isAgg229
  z70 := Tryz.sizeOf229
  v70 := Tryz.zeroValue229
  t76 := Tryz.underlying239
  a76 := Tryz.isAgg239
  z76 := Tryz.sizeOf239
  v76 := Tryz.zeroValue239
  t77 := Tryz.underlying240
  a77 := Tryz.isAgg240
  z77 := Tryz.sizeOf240
  v77 := Tryz.zeroValue240 }
end Go.Proofs
/-
  slices.SortFunc (122) of marks.
-/
namespace Go.Proofs.YthdhegmlknpllabGreatDoor
open Go.RowKit Go.Maps Go.MuLone Go.Sort Go.Lib Go.Shelf

/-- A mark whose place is a small number. -/
def Mk : Type := { x : Int × Int // 0 ≤ x.2 ∧ x.2 ≤ 1000000000000 }
def encM (x : Mk) : List Value := mkCells x.1
def cfM (x y : Mk) : Int := x.1.2 - y.1.2
theorem ltM (x y : Mk) : ltOf cfM x y = decide (x.1.2 < y.1.2) := by
  unfold ltOf cfM
  by_cases h : x.1.2 < y.1.2
  · rw [decide_eq_true h]; exact decide_eq_true (by omega)
  · rw [decide_eq_false h]; exact decide_eq_false (by omega)
theorem swoM : SWO (ltOf cfM) where
  irrefl x := by rw [ltM]; simp
  trans x y z h1 h2 := by rw [ltM] at *; simp at *; omega
  ntrans x y z h1 h2 := by rw [ltM] at *; simp at *; omega

set_option maxHeartbeats 400000 in
theorem clo_mk (x y : Mk) (w : World) :
    Calls Tryz.prog 123 #[.agg #[.int .i64 x.1.1, .int .i64 x.1.2], .agg #[.int .i64 y.1.1, .int .i64 y.1.2]] w fun e w' => e = .returned (.int .i64 (cfM x y)) ∧ w' = (w.alloc (.cells #[.int .i64 x.1.1, .int .i64 x.1.2] 120)).alloc (.cells #[.int .i64 y.1.1, .int .i64 y.1.2] 120) := by
  have h1 := x.2
  have h2 := y.2
  obtain ⟨a, ha⟩ : ∃ a, x.1.2 = a := ⟨_, rfl⟩
  obtain ⟨b, hb⟩ : ∃ b, y.1.2 = b := ⟨_, rfl⟩
  unfold cfM
  rw [ha, hb]
  rw [ha] at h1
  rw [hb] at h2
  have hwr : IntKind.i64.wrap (a - b) = a - b := wrap_fit ⟨by omega, by omega⟩
  go_enter Tryz.func123, Tryz.ntmps123
  go_wp2
  go_ret
  exact ⟨rfl, rfl⟩

section
variable [Inhabited Mk]
theorem flatC (d : Array Mk) (j : Nat) (hj : j < d.size * 2) : (mkC (d.toList.map fun x => x.1))[j]? = some (flatK encM 2 d)[j]! := by
  rw [get_flatK encM 2 d j hj]
  have hi : j / 2 < d.size := by omega
  have hl : j / 2 < (d.toList.map fun x => x.1).length := by simpa using hi
  have h1 := flat_get (f := mkCells) (k := 2) (fun _ => rfl) (d.toList.map fun x => x.1) (j / 2) hl (j % 2) (Nat.mod_lt _ (by omega))
  rw [show j / 2 * 2 + j % 2 = j by omega] at h1
  show ((d.toList.map fun x => x.1).flatMap mkCells)[j]? = _
  rw [h1]
  have h2 : (d.toList.map fun x => x.1)[j / 2] = (d[j / 2]!).1 := by
    rw [List.getElem_map, Array.getElem_toList, getElem!_pos d _ hi]
  rw [h2]
  show (mkCells (d[j / 2]!).1)[j % 2]? = some (mkCells (d[j / 2]!).1)[j % 2]!
  have hm : j % 2 < 2 := Nat.mod_lt _ (by omega)
  generalize (d[j / 2]!).1 = y
  generalize j % 2 = r at hm
  match r, hm with
  | 0, _ => rfl
  | 1, _ => rfl

theorem own_putM {w : World} {B g n cap q : Nat} {l : List (Int × Int)} (h : w.ownsRow B 120 2 (.slice (some ⟨g, 0, none⟩) n cap) n (mkC l)) (d : Array Mk) (hd : d.size = n) :
    (putRowK encM 2 (Sort.ahead w q) g 0 d).ownsRow B 120 2 (.slice (some ⟨g, 0, none⟩) n cap) n (mkC (d.toList.map fun x => x.1)) := by
  rcases h.2 with ⟨e0, _⟩ | ⟨g', cap', cur, e0, hb, hg, hn, hm, hs, ht⟩
  · cases e0
  · injection e0 with e1 _ e3
    injection e1 with e1
    injection e1 with e1
    subst e1; subst e3
    refine ⟨by rw [mkC_len]; simp [hd], .inr ⟨g, cap, putCells id 0 (flatK encM 2 d) cur, rfl, hb, ?_, hn, hm, by simpa [putCells] using hs, ?_⟩⟩
    · simp [putRowK, putRow, mapBlock, Sort.ahead, Array.getElem?_modify, hg, onCells]
    · apply List.ext_getElem?
      intro j
      rw [List.getElem?_take, Array.getElem?_toList]
      by_cases hj : j < n * 2
      · have hjc : j < cur.size := by
          have := Nat.mul_le_mul_right 2 hn
          omega
        rw [if_pos hj, flatC d j (by rw [hd]; exact hj)]
        simp only [putCells, Array.getElem?_mapIdx, Array.getElem?_eq_getElem hjc, Option.map_some]
        rw [if_pos ⟨Nat.zero_le _, by rw [size_flatK, hd]; omega⟩]
        rfl
      · rw [if_neg hj, List.getElem?_eq_none (by rw [mkC_len]; simp [hd]; omega)]

theorem gb_putM (w : World) (g q : Nat) (d : Array Mk) (os : Array Obj) : w.grownBy (grow (putRowK encM 2 (Sort.ahead w q) g 0 d) os) (some g) := by
  refine ⟨rfl, rfl, rfl, by simp [grow, putRowK, putRow, mapBlock, Sort.ahead], fun k hk hn => ?_⟩
  have hne : g ≠ k := fun e => hn (by rw [e])
  have hk2 : k < (putRowK encM 2 (Sort.ahead w q) g 0 d).heap.size := by simpa [putRowK, putRow, mapBlock, Sort.ahead] using hk
  rw [heap_grow_old _ _ hk2]
  simp [putRowK, putRow, mapBlock, Sort.ahead, Array.getElem?_modify, hne]

end
set_option maxRecDepth 100000 in
theorem sort_marks (B g cap : Nat) (l : List (Int × Int)) (W : World) (hl : ∀ x ∈ l, 0 ≤ x.2 ∧ x.2 ≤ 1000000000000) (h0 : l.length ≤ 100) (h : W.ownsRow B 120 2 (.slice (some ⟨g, 0, none⟩) l.length cap) l.length (mkC l)) :
    Calls Tryz.prog 122 #[.slice (some ⟨g, 0, none⟩) l.length cap, .func (.func 123) #[] #[]] W fun e w' => e = .returned (.tuple #[]) ∧ ∃ l', l'.Perm l ∧ l'.Pairwise (fun a b => a.2 ≤ b.2) ∧ w'.ownsRow B 120 2 (.slice (some ⟨g, 0, none⟩) l.length cap) l.length (mkC l') ∧ W.grownBy w' (some g) := by
  haveI : Inhabited Mk := ⟨⟨(0, 0), by decide⟩⟩
  obtain ⟨d, hd⟩ : ∃ d : Array Mk, d.toList.map (fun x => x.1) = l := ⟨(l.attach.map fun x => (⟨x.1, hl x.1 x.2⟩ : Mk)).toArray, by
    show ((l.attach.map fun x => (⟨x.1, hl x.1 x.2⟩ : Mk)).map fun x => x.1) = l
    rw [List.map_map]
    exact List.attach_map_subtype_val l⟩
  have hsz : d.size = l.length := by rw [← hd]; simp
  have hlt : g < W.heap.size := (h.lt g rfl).2
  have hH : HoldsK encM 2 W g 0 d := fun j hj => by
    rw [size_flatK] at hj
    have h1 := h.cellAt j (by rw [← hsz]; exact hj)
    rw [Nat.zero_add]
    refine ⟨?_, h.frozenAt _⟩
    rw [h1, ← hd]
    exact flatC d j hj
  have hc := AnyQ.slices_SortFunc (P := Tryz.prog) (ρ := Tryz.sortM_ren) Tryz.sortM 2 Tryz.isAgg120 Tryz.sizeOf120 encM (fun _ => rfl) (fun x v hv => by
      simp [encM, mkCells] at hv
      rcases hv with rfl | rfl <;> rfl) cfM swoM 123 #[] g 0 cap d W (enters_of Tryz.func123 (by kernel_rfl) rfl) (fun m os dk _ x y => (clo_mk x y _).mono fun e w' ⟨he, hw⟩ => ⟨he, 0, #[.cells #[.int .i64 x.1.1, .int .i64 x.1.2] 120, .cells #[.int .i64 y.1.1, .int .i64 y.1.2] 120], by
        rw [hw, alloc_eq_grow, alloc_eq_grow, grow_grow]
        rfl⟩) hH hlt (by rw [hsz]; omega)
  rw [hsz] at hc
  refine hc.mono ?_
  rintro e w' ⟨he, d', n, os, hp, hs, rfl⟩
  have hd' : d'.size = l.length := hp.1.trans hsz
  refine ⟨he, d'.toList.map fun x => x.1, ?_, ?_, ?_, gb_putM W g n d' os⟩
  · have h3 := hp.2.2
    rw [← hsz] at h3
    have e1 : (d'.extract 0 d.size).toList = d'.toList := by
      rw [← hp.1]
      simp
    have e2 : (d.extract 0 d.size).toList = d.toList := by simp
    rw [e1, e2] at h3
    rw [← hd]
    exact h3.map _
  · rw [List.pairwise_map, List.pairwise_iff_getElem]
    intro i j hi hj hij
    have hi' : i < d'.size := by simpa using hi
    have hj' : j < d'.size := by simpa using hj
    have := hs i j (Nat.zero_le _) hij (by omega)
    rw [ltM, getElem!_pos d' i hi', getElem!_pos d' j hj'] at this
    simp only [decide_eq_false_iff_not] at this
    simp only [Array.getElem_toList]
    omega
  · have h3 := own_putM (q := n) h d' hd'
    exact own_of_block h3 (fun k hk => by
      have hk2 : k < (putRowK encM 2 (Sort.ahead W n) g 0 d').heap.size := (h3.lt k hk).2
      exact heap_grow_old _ _ hk2)
end Go.Proofs.YthdhegmlknpllabGreatDoor

/-
  The walk of Mark (91): where it is marked already; where it is not, whatever marks stand.
-/
namespace Go.Proofs.YthdhegmlknpllabGreatDoor
open Go.RowKit Go.Maps Go.MuLone

set_option maxRecDepth 100000 in
set_option maxHeartbeats 800000 in
theorem mark_again (B b : Nat) (s : Sto) (g : Int) (w : World) (h : Rep B w b 0 s) (hl : s.ms.length ≤ 12) (j : Nat) (hf : fi (fun y : Int × Int => y.1 == g) 0 s.ms = (j : Int)) :
    Calls Tryz.prog 91 #[.pointer (some ⟨b, 0, none⟩), .int .i64 g] w fun e w' => e = .returned (.int .i64 0) ∧ Rep B w' b 0 s ∧ Fr (foot b s) w w' := by
  have R1 := h.lock 1
  obtain ⟨w1, hw1⟩ : ∃ w1, w.setCell ⟨b, 0, none⟩ (.int .i32 1) = w1 := ⟨_, rfl⟩
  rw [hw1] at R1
  have HL := lock_free Tryz.muLib ⟨b, 0, none⟩ w h.cells.1 (h.frozen 0)
  have F1 : Fr (foot b s) w w1 := by rw [← hw1]; exact fr_lock b s w _
  have HF : Hid (w.setCell ⟨b, 0, none⟩ (.int .i32 1) = w1 ∧ Rep B w1 b 1 s ∧ Fr (foot b s) w w1) := ⟨hw1, R1, F1⟩
  have HS := findMark_any B b 1 s g w1 R1 (by omega)
  rw [hf] at HS
  have j0 : (0 : Int) ≤ (j : Int) := Int.natCast_nonneg _
  clear h R1 F1 hw1 hf
  go_enter_defers Tryz.func91, Tryz.ntmps91
  go_wp2_with (first
    | (go_at_call 30; refine HL.mono ?_; rintro e w' ⟨rfl, hw'⟩; rw [HF.out.1] at hw'; have hw' := hw'.symm; subst hw')
    | (go_at_call 102; refine HS.mono ?_; rintro e w2 ⟨rfl, hfr⟩
       have HR2 : Hid (Rep B w2 b 1 s ∧ Fr (foot b s) w w2) := ⟨HF.out.2.1.kept0 hfr, HF.out.2.2.trans hfr (by simp)⟩
       clear hfr))
  refine leaves_cons (f := 31) (args := #[.pointer (some ⟨b, 0, none⟩)]) (by simp) (by simp [go_sem]) ?_
  refine (unlock_deferred Tryz.muLib ⟨b, 0, none⟩ .returning _ HR2.out.1.cells.1 (HR2.out.1.frozen 0)).mono ?_
  rintro e u' w'' ⟨rfl, rfl, rfl⟩
  exact ⟨_, results_tmp rfl _ _ _, rfl, HR2.out.1.lock 0, HR2.out.2.setCell _ (Or.inl (by simp [foot]))⟩

/-- A store's marks are turned. -/
def Sto.marked (s : Sto) (l : List (Int × Int)) (mv : Value) : Sto := { s with ms := l, mv := mv }
theorem Rep.markedG {B : Nat} {w w' : World} {b : Nat} {q : Int} {s : Sto} (h : Rep B w b q s) {l : List (Int × Int)} {mv : Value} (ho : w'.ownsRow B 120 2 mv l.length (mkC l)) (hg : w.grownBy w' s.mv.ownBlock) :
    Rep B (w'.setCell ⟨b, 6, none⟩ mv) b q (s.marked l mv) := by
  obtain ⟨a1, a2, a3, a4, a5, a6⟩ := h.apart
  have hmn : ∀ k, k < w.heap.size → s.mv.ownBlock ≠ some k → w'.heap[k]? = w.heap[k]? := fun k hk hn => hg.block k hk (fun e => hn e.symm)
  have hb : w'.heap[b]? = some (s.blk q) := by rw [hmn b (h.lt b (by simp [foot])).2 (fun e => (a5 b e).1 rfl)]; exact h.blk
  have hmb : ∀ k, mv.ownBlock = some k → k ≠ b := fun k hk e => by
    obtain ⟨_, cur, h4⟩ := own_tag ho hk
    rw [e, hb] at h4
    simp [Sto.blk] at h4
  refine ⟨?_, ?_, ?_, ?_, ?_, ?_, h.hb, h.hvb, h.hmb⟩
  · rw [heap_setCell_same w' b 6 _ _ _ hb]; rfl
  · rw [heap_setCell_other _ _ _ _ (by exact a1)]
    exact (hmn s.vb (h.lt s.vb (by simp [foot])).2 (fun e => (a5 _ e).2.1 rfl)).trans h.vol
  · refine own_of_block h.ss (fun k hk => ?_)
    rw [heap_setCell_other _ _ _ _ (a4 k hk).1, hmn k (h.ss.lt k hk).2 (a4 k hk).2.2.2]
  · refine h.th.of_block ?_
    rw [heap_setCell_other _ _ _ _ (by exact a2)]
    exact hmn s.mb (h.lt s.mb (by simp [foot])).2 (fun e => (a5 _ e).2.2 rfl)
  · exact own_of_block (w := w') ho (fun k hk => heap_setCell_other _ _ _ _ (hmb k hk))
  · refine own_of_block h.lg (fun k hk => ?_)
    rw [heap_setCell_other _ _ _ _ (a6 k hk).1, hmn k (h.lg.lt k hk).2 (a6 k hk).2.2.2.2]
/-- .. in place. -/
theorem Rep.sortedG {B : Nat} {w w' : World} {b : Nat} {q : Int} {s : Sto} (h : Rep B w b q s) {l : List (Int × Int)} (ho : w'.ownsRow B 120 2 s.mv l.length (mkC l)) (hg : w.grownBy w' s.mv.ownBlock) :
    Rep B w' b q (s.marked l s.mv) := by
  obtain ⟨a1, a2, a3, a4, a5, a6⟩ := h.apart
  have hmn : ∀ k, k < w.heap.size → s.mv.ownBlock ≠ some k → w'.heap[k]? = w.heap[k]? := fun k hk hn => hg.block k hk (fun e => hn e.symm)
  refine ⟨?_, ?_, ?_, ?_, ho, ?_, h.hb, h.hvb, h.hmb⟩
  · exact (hmn b (h.lt b (by simp [foot])).2 (fun e => (a5 b e).1 rfl)).trans h.blk
  · exact (hmn s.vb (h.lt s.vb (by simp [foot])).2 (fun e => (a5 _ e).2.1 rfl)).trans h.vol
  · exact own_of_block h.ss (fun k hk => hmn k (h.ss.lt k hk).2 (a4 k hk).2.2.2)
  · exact h.th.of_block (hmn s.mb (h.lt s.mb (by simp [foot])).2 (fun e => (a5 _ e).2.2 rfl))
  · exact own_of_block h.lg (fun k hk => hmn k (h.lg.lt k hk).2 (a6 k hk).2.2.2.2)
theorem marked_foot {b : Nat} {s : Sto} {l : List (Int × Int)} {mv : Value} {N : Nat} (h : ∀ k, mv.ownBlock = some k → s.mv.ownBlock = some k ∨ N ≤ k) : ∀ k ∈ foot b (s.marked l mv), k ∈ foot b s ∨ N ≤ k := by
  intro k hk
  simp only [foot, Sto.marked, List.mem_append, List.mem_cons, List.not_mem_nil, or_false, Option.mem_toList] at hk ⊢
  rcases hk with ((h1 | h1) | h1) | h1
  · exact Or.inl (Or.inl (Or.inl (Or.inl h1)))
  · exact Or.inl (Or.inl (Or.inl (Or.inr h1)))
  · exact (h k h1).imp_left (fun h2 => Or.inl (Or.inr h2))
  · exact Or.inl (Or.inr h1)

set_option maxRecDepth 100000 in
set_option maxHeartbeats 3200000 in
theorem mark_new (B b : Nat) (s : Sto) (g : Int) (j : Nat) (x : Sn) (w : World) (h : Rep B w b 0 s) (hl : s.ss.length ≤ 12) (hml : s.ms.length < 12) (hf : fi (fun y : Sn => y.guid == g) 0 s.ss = (j : Int)) (hx : s.ss[j]? = some x) (hfm : fi (fun y : Int × Int => y.1 == g) 0 s.ms = -1) (hms : ∀ y ∈ s.ms, 0 ≤ y.2 ∧ y.2 ≤ 1000000000000) (hxc : 0 ≤ x.came ∧ x.came ≤ 1000000000000) (hlg : s.log.length ≤ 140000000000000) :
    Calls Tryz.prog 91 #[.pointer (some ⟨b, 0, none⟩), .int .i64 g] w fun e w' => e = .returned (.int .i64 0) ∧ ∃ l mv lv, l.Perm (s.ms ++ [(g, x.came)]) ∧ l.Pairwise (fun a b => a.2 ≤ b.2) ∧ Rep B w' b 0 ((s.marked l mv).noted 77 (n4 g).ba lv) ∧ Fr (foot b s) w w' ∧ (∀ k, mv.ownBlock = some k → s.mv.ownBlock = some k ∨ w.heap.size ≤ k) ∧ (∀ k, lv.ownBlock = some k → s.lv.ownBlock = some k ∨ w.heap.size ≤ k) := by
  obtain ⟨i0, hi, hz0, hz1, hz2⟩ := info_parts info107
  have HU : Hid (∀ W, Calls Tryz.prog 60 #[.int .i64 g] W fun e w' => e = .returned (.string (n4 g).ba) ∧ Fr [] W w') := fun W => number_any g W
  have HNt : Hid (∀ W l mv, Rep B W b 1 (s.marked l mv) → _) := fun W l mv hW => note_any B b 1 (s.marked l mv) 77 (n4 g).ba W hW (by show 4 ≤ 1000; omega) hlg
  obtain ⟨ba, hba⟩ : ∃ ba, (n4 g).ba = ba := ⟨_, rfl⟩
  rw [hba] at HU HNt ⊢
  clear hba
  have R1 := h.lock 1
  obtain ⟨w1, hw1⟩ : ∃ w1, w.setCell ⟨b, 0, none⟩ (.int .i32 1) = w1 := ⟨_, rfl⟩
  rw [hw1] at R1
  have hj : j < s.ss.length := (List.getElem?_eq_some_iff.1 hx).1
  have HL := lock_free Tryz.muLib ⟨b, 0, none⟩ w h.cells.1 (h.frozen 0)
  have F1 : Fr (foot b s) w w1 := by rw [← hw1]; exact fr_lock b s w _
  have HF : Hid (w.setCell ⟨b, 0, none⟩ (.int .i32 1) = w1 ∧ Rep B w1 b 1 s ∧ Fr (foot b s) w w1 ∧ s.ss[j]? = some x) := ⟨hw1, R1, F1, hx⟩
  have HM := findMark_any B b 1 s g w1 R1 (by omega)
  rw [hfm] at HM
  have HS : Hid (∀ W, Rep B W b 1 s → _) := fun W hW => findSnapshot_any B b 1 s g W hW (by omega)
  rw [hf] at HS
  obtain ⟨ao, cap, hsv⟩ := own_shape h.ss
  have ho := h.ss
  rw [hsv] at ho
  obtain ⟨gg, hgg, hcap, hcells⟩ := own_addr ho (by omega)
  clear hcells
  subst hgg
  have HV : Hid (s.sv = .slice (some ⟨gg, 0, none⟩) s.ss.length cap) := hsv
  obtain ⟨mo, mc, hmv⟩ := own_shape h.ms
  have HMo : Hid (s.mv = .slice mo s.ms.length mc) := hmv
  obtain ⟨n, hn⟩ : ∃ n, s.ss.length = n := ⟨_, rfl⟩
  have hjn : (j : Int) < (n : Int) := by omega
  have HN : Hid (s.ss.length = n) := hn
  obtain ⟨m, hm⟩ : ∃ m, s.ms.length = m := ⟨_, rfl⟩
  have HNm : Hid (s.ms.length = m) := hm
  obtain ⟨cm, hcm⟩ : ∃ cm, x.came = cm := ⟨_, rfl⟩
  have HCM : Hid (x.came = cm) := hcm
  rw [hcm] at hxc ⊢
  have HB : Hid ((∀ y ∈ s.ms, 0 ≤ y.2 ∧ y.2 ≤ 1000000000000) ∧ 0 ≤ cm ∧ cm ≤ 1000000000000) := ⟨hms, hxc⟩
  have hne : s.mv.ownBlock ≠ some b := fun e => (h.apart.2.2.2.2.1 b e).1 rfl
  rw [hmv, hm] at hne
  have HNE : Hid ((Value.slice mo m mc).ownBlock ≠ some b) := hne
  rw [hm] at hml
  clear h R1 F1 hw1 hf hx ho hsv hcm hmv hms hxc hfm hm hne
  rw [hn] at hcap hj hl
  clear hn
  have hmz : ¬ (12 : Int) ≤ (m : Int) := by omega
  go_enter_defers Tryz.func91, Tryz.ntmps91
  go_wp2_with (first
    | (go_at_call 30; refine HL.mono ?_; rintro e w' ⟨rfl, hw'⟩; rw [HF.out.1] at hw'; have hw' := hw'.symm; subst hw')
    | (go_at_call 102; refine HM.mono ?_; rintro e w2 ⟨rfl, hfr⟩
       have HR2 : Hid (Rep B w2 b 1 s ∧ Fr (foot b s) w w2) := ⟨HF.out.2.1.kept0 hfr, HF.out.2.2.1.trans hfr (by simp)⟩
       clear hfr)
    | (go_at_call 72; refine (HS.out _ HR2.out.1).mono ?_; rintro e w3 ⟨rfl, hfr⟩
       have HR3 : Hid (Rep B w3 b 1 s ∧ Fr (foot b s) w w3) := ⟨HR2.out.1.kept0 hfr, HR2.out.2.trans hfr (by simp)⟩
       have c4 : w3.cell? ⟨b, 4, none⟩ = some (.slice (some ⟨gg, 0, none⟩) n cap) := by rw [← HN.out, ← HV.out]; exact HR3.out.1.cells.2.2.2.1
       have c6 : w3.cell? ⟨b, 6, none⟩ = some (.slice mo m mc) := by rw [← HNm.out, ← HMo.out]; exact HR3.out.1.cells.2.2.2.2.2.1
       have d3 : w3.cell? ⟨gg, j * 4 + 3, none⟩ = some (.int .i64 cm) := by
         have h1 := HR3.out.1.ss
         rw [HV.out, HN.out] at h1
         obtain ⟨g', e', _, hc⟩ := own_addr h1 (by omega)
         have : g' = gg := by simpa using e'.symm
         subst this
         rw [hc _ (by omega)]
         have h2 := (snC_get s.ss j (by rw [HN.out]; exact hj)).2.2.2
         rw [h2]
         have h3 := HF.out.2.2.2
         rw [List.getElem?_eq_getElem (by rw [HN.out]; exact hj)] at h3
         simp at h3
         rw [h3, HCM.out]
       have f6 := HR3.out.1.frozen 6
       have HO3 : Hid (w3.ownsRow B 120 2 (.slice mo m mc) m (mkC s.ms)) := by
         have h1 := HR3.out.1.ms
         rw [HMo.out, HNm.out] at h1
         exact h1
       have lb := World.block_lt_of_cell? _ _ c6
       have lb' : b < w3.heap.size := lb
       have hBw : B ≤ w3.heap.size := by have := HR3.out.1.hb; omega
       clear hfr))
  have j0 : (0 : Int) ≤ (j : Int) := Int.natCast_nonneg _
  have j1 : ¬ ((n : Int) ≤ (j : Int)) := by omega
  refine wp_region_noPanic ?_
  go_region_law
    ((refine step_append_lies _ (by rfl) _ _ _ (by rfl) B 120 i0 _ 2 16 Tryz.underlying84 hi hz0 hz1 hz2 rfl (by omega) (.slice mo m mc) m (mkC s.ms) (by rfl) ((HO3.out.alloc _).drew) ⟨w3.heap.size, 0, none⟩ 1 1 [.int .i64 g, .int .i64 cm] (by rfl) (by rfl) (World.news_of_block (cs := #[.int .i64 g, .int .i64 cm]) (t := 120) (fr := (0, 0)) (heap_alloc_new w3 _)) (by simp [Value.oneCell']) (by omega) (by unfold maxLen; omega) (by omega) (by simp; omega) (w3.heap.size + 1) (by simp) ?_; intro mg cap1 w9 hown9 hgrow hat hlt9; have f9 : w9.frozen? ⟨b, 6, none⟩ = false := (hgrow.frozen_far ⟨b, 6, none⟩ (by simp; omega) (Ne.symm HNE.out)).trans (froz_alloc lb' f6); have c9 : w9.cell? ⟨b, 6, none⟩ = some (.slice mo m mc) := (hgrow.cell_far ⟨b, 6, none⟩ (by simp; omega) (Ne.symm HNE.out)).trans ((World.cell?_of_block (Below.heap_alloc w3 _ b lb')).trans c6)))
  all_goals
    refine NoPanic.normal ?_
    have HR9 : Hid (Rep B (w9.setCell ⟨b, 6, none⟩ (.slice (some ⟨mg, 0, none⟩) (m + 1) cap1)) b 1 (s.marked (s.ms ++ [(g, cm)]) (.slice (some ⟨mg, 0, none⟩) (m + 1) cap1)) ∧ Fr (foot b s) w (w9.setCell ⟨b, 6, none⟩ (.slice (some ⟨mg, 0, none⟩) (m + 1) cap1)) ∧ (s.mv.ownBlock = some mg ∨ w.heap.size ≤ mg)) := by
      have R2 := HR3.out.1.kept0 ((Fr.refl _ _).alloc (.cells #[.int .i64 g, .int .i64 cm] 120)).drew
      refine ⟨R2.markedG (l := s.ms ++ [(g, cm)]) ?_ (by rw [HMo.out, HNm.out]; exact hgrow), Fr.setCell ((HR3.out.2.alloc _).drew.grown hgrow (fun k hk => Or.inl ?_)) _ (Or.inl (by simp [foot])), ?_⟩
      · rw [List.length_append, HNm.out]
        have e1 : mkC (s.ms ++ [(g, cm)]) = mkC s.ms ++ [.int .i64 g, .int .i64 cm] := by simp [mkC, mkCells]
        rw [e1]
        exact hown9
      · simp only [foot, List.mem_append, Option.mem_toList]
        exact Or.inl (Or.inr (by rw [HMo.out, HNm.out]; exact hk))
      · rcases hat with h | h
        · left
          rw [HMo.out, HNm.out]
          exact h
        · have := HR3.out.2.size
          right
          omega
    obtain ⟨W9, hW9⟩ : ∃ W9, w9.setCell ⟨b, 6, none⟩ (.slice (some ⟨mg, 0, none⟩) (m + 1) cap1) = W9 := ⟨_, rfl⟩
    rw [hW9] at HR9
    rw [hW9]
    have c6' : W9.cell? ⟨b, 6, none⟩ = some (.slice (some ⟨mg, 0, none⟩) (m + 1) cap1) := HR9.out.1.cells.2.2.2.2.2.1
    clear hown9 hgrow hat hlt9 f9 c9 hW9 c4 c6 d3 f6 HO3
    have HMG : Hid (∀ k, (Value.slice (some ⟨mg, 0, none⟩) (m + 1) cap1).ownBlock = some k → s.mv.ownBlock = some k ∨ w.heap.size ≤ k) := fun k hk => by
      have : mg = k := by simpa [Value.ownBlock] using hk
      subst this
      exact HR9.out.2.2
    have HT : Hid (Calls Tryz.prog 122 #[.slice (some ⟨mg, 0, none⟩) (m + 1) cap1, .func (.func 123) #[] #[]] W9 fun e w' => e = .returned (.tuple #[]) ∧ ∃ l', l'.Perm (s.ms ++ [(g, cm)]) ∧ l'.Pairwise (fun a b => a.2 ≤ b.2) ∧ w'.ownsRow B 120 2 (.slice (some ⟨mg, 0, none⟩) (m + 1) cap1) (m + 1) (mkC l') ∧ W9.grownBy w' (some mg)) := by
      have e1 : (s.ms ++ [(g, cm)]).length = m + 1 := by rw [List.length_append, HNm.out]; rfl
      have h1 := HR9.out.1.ms
      have h2 := sort_marks B mg cap1 (s.ms ++ [(g, cm)]) W9 (fun y hy => by
        rcases List.mem_append.1 hy with h3 | h3
        · exact HB.out.1 y h3
        · simp at h3
          subst h3
          exact HB.out.2) (by rw [e1]; omega) (by rw [e1]; rw [show (s.marked (s.ms ++ [(g, cm)]) (.slice (some ⟨mg, 0, none⟩) (m + 1) cap1)).ms = s.ms ++ [(g, cm)] from rfl, e1] at h1; exact h1)
      rw [e1] at h2
      exact h2
    go_wp2_with (first
      | (go_at_call 122; refine HT.out.mono ?_; rintro e w4 ⟨rfl, l', hp4, hs4, ho4, hg4⟩
         have HR4 : Hid (Rep B w4 b 1 (s.marked l' (.slice (some ⟨mg, 0, none⟩) (m + 1) cap1)) ∧ Fr (foot b s) w w4 ∧ l'.Perm (s.ms ++ [(g, cm)]) ∧ l'.Pairwise (fun a b => a.2 ≤ b.2)) := by
           have e1 : l'.length = m + 1 := by rw [hp4.length_eq, List.length_append, HNm.out]; rfl
           have h1 := HR9.out.1.sortedG (w' := w4) (l := l') (by rw [e1]; exact ho4) hg4
           refine ⟨h1, HR9.out.2.1.grown hg4 (fun k hk => ?_), hp4, hs4⟩
           have : mg = k := by simpa using hk
           subst this
           exact HR9.out.2.2.imp_left (fun h5 => by simp [foot, h5])
         clear hp4 hs4 ho4 hg4)
      | (go_at_call 60; refine (HU.out _).mono ?_; rintro e w5 ⟨rfl, f5⟩; have HR5 : Hid (Rep B w5 b 1 (s.marked l' (.slice (some ⟨mg, 0, none⟩) (m + 1) cap1)) ∧ Fr (foot b s) w w5) := ⟨HR4.out.1.kept0 f5, HR4.out.2.1.trans f5 (by simp)⟩; clear f5)
      | (go_at_call 33; refine (HNt.out _ l' _ HR5.out.1).mono ?_; rintro e w6 ⟨rfl, lv, r6, f6, a6⟩; have HR6 : Hid (Rep B w6 b 1 ((s.marked l' (.slice (some ⟨mg, 0, none⟩) (m + 1) cap1)).noted 77 ba lv) ∧ Fr (foot b s) w w6 ∧ (∀ k, lv.ownBlock = some k → s.lv.ownBlock = some k ∨ w.heap.size ≤ k)) := ⟨r6, HR5.out.2.trans f6 (marked_foot HMG.out), fun k hk => (a6 k hk).imp_right (fun h => Nat.le_trans HR5.out.2.size h)⟩; clear r6 f6 a6))
    refine leaves_cons (f := 31) (args := #[.pointer (some ⟨b, 0, none⟩)]) (by simp) (by simp [go_sem]) ?_
    refine (unlock_deferred Tryz.muLib ⟨b, 0, none⟩ .returning _ HR6.out.1.cells.1 (HR6.out.1.frozen 0)).mono ?_
    rintro e u' w'' ⟨rfl, rfl, rfl⟩
    exact ⟨_, results_tmp rfl _ _ _, rfl, l', _, lv, HR4.out.2.2.1, HR4.out.2.2.2, HR6.out.1.lock 0, HR6.out.2.1.setCell _ (Or.inl (by simp [foot])), HMG.out, HR6.out.2.2⟩
end Go.Proofs.YthdhegmlknpllabGreatDoor
