import Derived.Test.YthdhegmlknpllabGreatDoorM29
import Derived.Test.YthdhegmlknpllabGreatDoorM15
/-
  The walk of wire.Letter.Text (38).
-/
namespace Go.Proofs.YthdhegmlknpllabGreatDoor
open Go.RowKit Go.Maps Go.MuLone

theorem conv2 {w : World} {vb : Nat} {x y : UInt8} (h0 : w.cell? ⟨vb, 0, none⟩ = some (u8 x)) (h1 : w.cell? ⟨vb, 1, none⟩ = some (u8 y)) : (convert 50 9 (.slice (some ⟨vb, 0, none⟩) 2 2)).run Tryz.prog w = .ok (.string ⟨#[x, y]⟩) w := by
  have := run_convert_bytes_back (P := Tryz.prog) w 50 9 5 ⟨vb, 0, none⟩ 2 [x, y] Tryz.underlying50 Tryz.underlying5 Tryz.underlying9 (by
    intro j hj
    have hj' : j < 2 := hj
    rcases (by omega : j = 0 ∨ j = 1) with rfl | rfl
    · exact h0
    · exact h1)
  exact this
theorem conv2_after {W w5 : World} {x y : UInt8} (f : Fr [] (W.alloc (.cells #[.int .u8 (x.toNat : Int), .int .u8 (y.toNat : Int)] 5)) w5) : (convert 50 9 (.slice (some ⟨W.heap.size, 0, none⟩) 2 2)).run Tryz.prog w5 = .ok (.string ⟨#[x, y]⟩) w5 := by
  refine conv2 ?_ ?_
  · rw [World.cell?_of_block (f.block W.heap.size (by simp) (by simp))]
    simp [u8]
  · rw [World.cell?_of_block (f.block W.heap.size (by simp) (by simp))]
    simp [u8]

/-- A letter's head: what it is, the replica's number, a number. -/
def lhead (k : UInt8) (p num : Int) : List UInt8 := k :: byt p :: (n4 num).list'
theorem lhead_eq (k : UInt8) (p num : Int) : (⟨#[k, byt p]⟩ ++ (n4 num).ba : ByteArray) = ofL (lhead k p num) := by
  refine ofL_ext ?_
  simp [ofL, lhead, B4.ba, B4.list']

set_option maxRecDepth 100000 in
set_option maxHeartbeats 1600000 in
theorem text_ask (k : UInt8) (p num : Int) (st : ByteArray) (g : Int) (w : World) (h1 : ((k.toNat : Int) == 68) = false) (h2 : ((k.toNat : Int) == 72) = false) (h3 : ((k.toNat : Int) == 71) = false) :
    Calls Tryz.prog 38 #[.agg #[.int .u8 (k.toNat : Int), .int .i64 p, .int .i64 num, .string st, .int .i64 g]] w fun e w' => e = .returned (.string (ofL (lhead k p num))) ∧ Fr [] w w' := by
  obtain ⟨bx, hbx⟩ : ∃ bx, w.heap.size = bx := ⟨_, rfl⟩
  obtain ⟨w0, hw0⟩ : ∃ w0, w.alloc (.cells #[.int .u8 (k.toNat : Int), .int .i64 p, .int .i64 num, .string st, .int .i64 g] 100) = w0 := ⟨_, rfl⟩
  have b0 : w0.heap[bx]? = some (.cells #[.int .u8 (k.toNat : Int), .int .i64 p, .int .i64 num, .string st, .int .i64 g] 100 (0, 0)) := by rw [← hw0, ← hbx]; exact heap_alloc_new w _
  have F0 : Fr [] w w0 := by rw [← hw0]; exact (Fr.refl _ _).alloc _
  have HB : Hid (Fr [] w w0 ∧ bx < w0.heap.size) := ⟨F0, (Array.getElem?_eq_some_iff.1 b0).1⟩
  have HX : Hid (∀ W, Fr [] w0 W → W.cell? ⟨bx, 0, none⟩ = some (.int .u8 (k.toNat : Int)) ∧ W.cell? ⟨bx, 1, none⟩ = some (.int .i64 p) ∧ W.cell? ⟨bx, 2, none⟩ = some (.int .i64 num) ∧ W.cell? ⟨bx, 3, none⟩ = some (.string st) ∧ W.cell? ⟨bx, 4, none⟩ = some (.int .i64 g)) := fun W hW => by
    have hh : W.heap[bx]? = _ := (hW.block bx (Array.getElem?_eq_some_iff.1 b0).1 (by simp)).trans b0
    exact ⟨by rw [cell_of hh]; rfl, by rw [cell_of hh]; rfl, by rw [cell_of hh]; rfl, by rw [cell_of hh]; rfl, by rw [cell_of hh]; rfl⟩
  have x0 := (HX.out w0 (Fr.refl _ _)).1
  have x1 := (HX.out w0 (Fr.refl _ _)).2.1
  have x2 := (HX.out w0 (Fr.refl _ _)).2.2.1
  have lbx : bx < w0.heap.size := HB.out.2
  have HU : Hid (∀ W, Calls Tryz.prog 60 #[.int .i64 num] W fun e w' => e = .returned (.string (n4 num).ba) ∧ Fr [] W w') := fun W => number_any num W
  have HUg : Hid (∀ W, Calls Tryz.prog 60 #[.int .i64 g] W fun e w' => e = .returned (.string (n4 g).ba) ∧ Fr [] W w') := fun W => number_any g W
  obtain ⟨ba, hba⟩ : ∃ ba, (n4 num).ba = ba := ⟨_, rfl⟩
  obtain ⟨bg, hbg⟩ : ∃ bg, (n4 g).ba = bg := ⟨_, rfl⟩
  have hsa : ba.size = 4 := by rw [← hba]; rfl
  have hsg : bg.size = 4 := by rw [← hbg]; rfl
  rw [hba] at HU
  rw [hbg] at HUg
  have hwr : IntKind.u8.wrap p = ((byt p).toNat : Int) := by rw [← byt_eq]; simp [IntKind.wrap, IntKind.bits, IntKind.signed]
  have hwm : p % 256 = ((byt p).toNat : Int) := byt_eq p
  obtain ⟨yp, hyp⟩ : ∃ yp, byt p = yp := ⟨_, rfl⟩
  rw [hyp] at hwr hwm
  have hsz : (⟨#[k, yp]⟩ : ByteArray).size = 2 := rfl
  have hs6 : (⟨#[k, yp]⟩ ++ ba : ByteArray).size = 6 := by rw [ByteArray.size_append, hsz, hsa]
  have HY : Hid ((⟨#[k, yp]⟩ ++ ba : ByteArray) = ofL (lhead k p num) ∧ bg = ofL (n4 g).list' ∧ ofL st.data.toList = st) := by
    refine ⟨?_, by rw [← hbg]; rfl, ofL_back st⟩
    rw [← hba, ← hyp]
    exact lhead_eq k p num
  have hcv : ∀ W : World, (convert 50 9 (.slice (some ⟨W.heap.size, 0, none⟩) 2 2)).run Tryz.prog (W.alloc (.cells #[.int .u8 (k.toNat : Int), .int .u8 (yp.toNat : Int)] 5)) = .ok (.string ⟨#[k, yp]⟩) (W.alloc (.cells #[.int .u8 (k.toNat : Int), .int .u8 (yp.toNat : Int)] 5)) := fun W => conv2_after (Fr.refl _ _)
  have hcv0 : (convert 50 9 (.slice (some ⟨w0.heap.size, 0, none⟩) 2 2)).run Tryz.prog (w0.alloc (.cells #[.int .u8 (k.toNat : Int), .int .u8 (yp.toNat : Int)] 5)).drew = .ok (.string ⟨#[k, yp]⟩) (w0.alloc (.cells #[.int .u8 (k.toNat : Int), .int .u8 (yp.toNat : Int)] 5)).drew := conv2_after ((Fr.refl [] _).drew)
  obtain ⟨hd, hhd⟩ : ∃ hd, (⟨#[k, yp]⟩ ++ ba : ByteArray) = hd := ⟨_, rfl⟩
  have hs7 : hd.size = 6 := by rw [← hhd]; exact hs6
  rw [hhd] at HY
  have hw0' := hw0
  clear hw0 b0 F0 hba hbg hyp
  go_enter Tryz.func38, Tryz.ntmps38
  go_wp2
  go_region_held (fun w' => w'.cell? ⟨bx, 0, none⟩ = some (.int .u8 (k.toNat : Int)) ∧ w'.cell? ⟨bx, 1, none⟩ = some (.int .i64 p) ∧ w'.cell? ⟨bx, 2, none⟩ = some (.int .i64 num))
    (first
      | go_keep
      | (go_split_ands
         refine ⟨?_, ?_, ?_⟩ <;> (rw [World.cell?_of_block (f5.block bx (World.block_lt_of_cell? _ ⟨bx, 0, none⟩ (by assumption)) (by simp))]; assumption)))
    (first
    | (go_at_call_of 60 (Value.int .i64 num); refine (HU.out _).mono ?_; rintro e w5 ⟨rfl, f5⟩
       try have hc5 : (convert 50 9 (.slice (some ⟨w0.heap.size, 0, none⟩) 2 2)).run Tryz.prog w5 = _ := conv2_after (x := k) (y := yp) (((Fr.refl [] _).drew).tr f5)))
  all_goals
    have HF5 : Hid (Fr [] w0 w5) := by first | exact ((Fr.refl [] w0).alloc _).drew.tr f5 | exact (Fr.refl [] w0).drew.tr f5
    have y0 := (HX.out w5 HF5.out).1
    have y3 := (HX.out w5 HF5.out).2.2.2.1
    have y4 := (HX.out w5 HF5.out).2.2.2.2
    have lb5 : bx < w5.heap.size := World.block_lt_of_cell? _ _ y0
    clear f5 hcv hcv0 hwr hwm
    go_wp2
    go_ret
    exact ⟨congrArg (fun t => Ending.returned (Value.string t)) HY.out.1, (by first | exact HB.out.1.tr HF5.out | exact (HB.out.1.tr HF5.out).alloc _)⟩

set_option maxRecDepth 100000 in
set_option maxHeartbeats 1600000 in
theorem text_data (k : UInt8) (p num : Int) (st : ByteArray) (g : Int) (w : World) (h1 : ((k.toNat : Int) == 68) = true) (hst : st.size ≤ 1000000) :
    Calls Tryz.prog 38 #[.agg #[.int .u8 (k.toNat : Int), .int .i64 p, .int .i64 num, .string st, .int .i64 g]] w fun e w' => e = .returned (.string (ofL (lhead k p num ++ st.data.toList))) ∧ Fr [] w w' := by
  obtain ⟨bx, hbx⟩ : ∃ bx, w.heap.size = bx := ⟨_, rfl⟩
  obtain ⟨w0, hw0⟩ : ∃ w0, w.alloc (.cells #[.int .u8 (k.toNat : Int), .int .i64 p, .int .i64 num, .string st, .int .i64 g] 100) = w0 := ⟨_, rfl⟩
  have b0 : w0.heap[bx]? = some (.cells #[.int .u8 (k.toNat : Int), .int .i64 p, .int .i64 num, .string st, .int .i64 g] 100 (0, 0)) := by rw [← hw0, ← hbx]; exact heap_alloc_new w _
  have F0 : Fr [] w w0 := by rw [← hw0]; exact (Fr.refl _ _).alloc _
  have HB : Hid (Fr [] w w0 ∧ bx < w0.heap.size) := ⟨F0, (Array.getElem?_eq_some_iff.1 b0).1⟩
  have HX : Hid (∀ W, Fr [] w0 W → W.cell? ⟨bx, 0, none⟩ = some (.int .u8 (k.toNat : Int)) ∧ W.cell? ⟨bx, 1, none⟩ = some (.int .i64 p) ∧ W.cell? ⟨bx, 2, none⟩ = some (.int .i64 num) ∧ W.cell? ⟨bx, 3, none⟩ = some (.string st) ∧ W.cell? ⟨bx, 4, none⟩ = some (.int .i64 g)) := fun W hW => by
    have hh : W.heap[bx]? = _ := (hW.block bx (Array.getElem?_eq_some_iff.1 b0).1 (by simp)).trans b0
    exact ⟨by rw [cell_of hh]; rfl, by rw [cell_of hh]; rfl, by rw [cell_of hh]; rfl, by rw [cell_of hh]; rfl, by rw [cell_of hh]; rfl⟩
  have x0 := (HX.out w0 (Fr.refl _ _)).1
  have x1 := (HX.out w0 (Fr.refl _ _)).2.1
  have x2 := (HX.out w0 (Fr.refl _ _)).2.2.1
  have lbx : bx < w0.heap.size := HB.out.2
  have HU : Hid (∀ W, Calls Tryz.prog 60 #[.int .i64 num] W fun e w' => e = .returned (.string (n4 num).ba) ∧ Fr [] W w') := fun W => number_any num W
  have HUg : Hid (∀ W, Calls Tryz.prog 60 #[.int .i64 g] W fun e w' => e = .returned (.string (n4 g).ba) ∧ Fr [] W w') := fun W => number_any g W
  obtain ⟨ba, hba⟩ : ∃ ba, (n4 num).ba = ba := ⟨_, rfl⟩
  obtain ⟨bg, hbg⟩ : ∃ bg, (n4 g).ba = bg := ⟨_, rfl⟩
  have hsa : ba.size = 4 := by rw [← hba]; rfl
  have hsg : bg.size = 4 := by rw [← hbg]; rfl
  rw [hba] at HU
  rw [hbg] at HUg
  have hwr : IntKind.u8.wrap p = ((byt p).toNat : Int) := by rw [← byt_eq]; simp [IntKind.wrap, IntKind.bits, IntKind.signed]
  have hwm : p % 256 = ((byt p).toNat : Int) := byt_eq p
  obtain ⟨yp, hyp⟩ : ∃ yp, byt p = yp := ⟨_, rfl⟩
  rw [hyp] at hwr hwm
  have hsz : (⟨#[k, yp]⟩ : ByteArray).size = 2 := rfl
  have hs6 : (⟨#[k, yp]⟩ ++ ba : ByteArray).size = 6 := by rw [ByteArray.size_append, hsz, hsa]
  have HY : Hid ((⟨#[k, yp]⟩ ++ ba : ByteArray) = ofL (lhead k p num) ∧ bg = ofL (n4 g).list' ∧ ofL st.data.toList = st) := by
    refine ⟨?_, by rw [← hbg]; rfl, ofL_back st⟩
    rw [← hba, ← hyp]
    exact lhead_eq k p num
  have hcv : ∀ W : World, (convert 50 9 (.slice (some ⟨W.heap.size, 0, none⟩) 2 2)).run Tryz.prog (W.alloc (.cells #[.int .u8 (k.toNat : Int), .int .u8 (yp.toNat : Int)] 5)) = .ok (.string ⟨#[k, yp]⟩) (W.alloc (.cells #[.int .u8 (k.toNat : Int), .int .u8 (yp.toNat : Int)] 5)) := fun W => conv2_after (Fr.refl _ _)
  have hcv0 : (convert 50 9 (.slice (some ⟨w0.heap.size, 0, none⟩) 2 2)).run Tryz.prog (w0.alloc (.cells #[.int .u8 (k.toNat : Int), .int .u8 (yp.toNat : Int)] 5)).drew = .ok (.string ⟨#[k, yp]⟩) (w0.alloc (.cells #[.int .u8 (k.toNat : Int), .int .u8 (yp.toNat : Int)] 5)).drew := conv2_after ((Fr.refl [] _).drew)
  obtain ⟨hd, hhd⟩ : ∃ hd, (⟨#[k, yp]⟩ ++ ba : ByteArray) = hd := ⟨_, rfl⟩
  have hs7 : hd.size = 6 := by rw [← hhd]; exact hs6
  rw [hhd] at HY
  have hw0' := hw0
  clear hw0 b0 F0 hba hbg hyp
  go_enter Tryz.func38, Tryz.ntmps38
  go_wp2
  go_region_held (fun w' => w'.cell? ⟨bx, 0, none⟩ = some (.int .u8 (k.toNat : Int)) ∧ w'.cell? ⟨bx, 1, none⟩ = some (.int .i64 p) ∧ w'.cell? ⟨bx, 2, none⟩ = some (.int .i64 num))
    (first
      | go_keep
      | (go_split_ands
         refine ⟨?_, ?_, ?_⟩ <;> (rw [World.cell?_of_block (f5.block bx (World.block_lt_of_cell? _ ⟨bx, 0, none⟩ (by assumption)) (by simp))]; assumption)))
    (first
    | (go_at_call_of 60 (Value.int .i64 num); refine (HU.out _).mono ?_; rintro e w5 ⟨rfl, f5⟩
       try have hc5 : (convert 50 9 (.slice (some ⟨w0.heap.size, 0, none⟩) 2 2)).run Tryz.prog w5 = _ := conv2_after (x := k) (y := yp) (((Fr.refl [] _).drew).tr f5)))
  all_goals
    have HF5 : Hid (Fr [] w0 w5) := by first | exact ((Fr.refl [] w0).alloc _).drew.tr f5 | exact (Fr.refl [] w0).drew.tr f5
    have y0 := (HX.out w5 HF5.out).1
    have y3 := (HX.out w5 HF5.out).2.2.2.1
    have y4 := (HX.out w5 HF5.out).2.2.2.2
    have lb5 : bx < w5.heap.size := World.block_lt_of_cell? _ _ y0
    clear f5 hcv hcv0 hwr hwm
    have hadd : ¬ (9223372036854775807 < 6 + st.size) := by omega
    go_wp2
    go_ret
    exact ⟨congrArg (fun t => Ending.returned (Value.string t)) (show hd ++ st = ofL (lhead k p num ++ st.data.toList) by rw [← ofL_append, ← HY.out.1, HY.out.2.2]), (by first | exact HB.out.1.tr HF5.out | exact (HB.out.1.tr HF5.out).alloc _)⟩

set_option maxRecDepth 100000 in
set_option maxHeartbeats 1600000 in
theorem text_has (k : UInt8) (p num : Int) (st : ByteArray) (g : Int) (w : World) (h1 : ((k.toNat : Int) == 68) = false) (h2 : ((k.toNat : Int) == 72) = true) :
    Calls Tryz.prog 38 #[.agg #[.int .u8 (k.toNat : Int), .int .i64 p, .int .i64 num, .string st, .int .i64 g]] w fun e w' => e = .returned (.string (ofL (lhead k p num ++ (n4 g).list'))) ∧ Fr [] w w' := by
  obtain ⟨bx, hbx⟩ : ∃ bx, w.heap.size = bx := ⟨_, rfl⟩
  obtain ⟨w0, hw0⟩ : ∃ w0, w.alloc (.cells #[.int .u8 (k.toNat : Int), .int .i64 p, .int .i64 num, .string st, .int .i64 g] 100) = w0 := ⟨_, rfl⟩
  have b0 : w0.heap[bx]? = some (.cells #[.int .u8 (k.toNat : Int), .int .i64 p, .int .i64 num, .string st, .int .i64 g] 100 (0, 0)) := by rw [← hw0, ← hbx]; exact heap_alloc_new w _
  have F0 : Fr [] w w0 := by rw [← hw0]; exact (Fr.refl _ _).alloc _
  have HB : Hid (Fr [] w w0 ∧ bx < w0.heap.size) := ⟨F0, (Array.getElem?_eq_some_iff.1 b0).1⟩
  have HX : Hid (∀ W, Fr [] w0 W → W.cell? ⟨bx, 0, none⟩ = some (.int .u8 (k.toNat : Int)) ∧ W.cell? ⟨bx, 1, none⟩ = some (.int .i64 p) ∧ W.cell? ⟨bx, 2, none⟩ = some (.int .i64 num) ∧ W.cell? ⟨bx, 3, none⟩ = some (.string st) ∧ W.cell? ⟨bx, 4, none⟩ = some (.int .i64 g)) := fun W hW => by
    have hh : W.heap[bx]? = _ := (hW.block bx (Array.getElem?_eq_some_iff.1 b0).1 (by simp)).trans b0
    exact ⟨by rw [cell_of hh]; rfl, by rw [cell_of hh]; rfl, by rw [cell_of hh]; rfl, by rw [cell_of hh]; rfl, by rw [cell_of hh]; rfl⟩
  have x0 := (HX.out w0 (Fr.refl _ _)).1
  have x1 := (HX.out w0 (Fr.refl _ _)).2.1
  have x2 := (HX.out w0 (Fr.refl _ _)).2.2.1
  have lbx : bx < w0.heap.size := HB.out.2
  have HU : Hid (∀ W, Calls Tryz.prog 60 #[.int .i64 num] W fun e w' => e = .returned (.string (n4 num).ba) ∧ Fr [] W w') := fun W => number_any num W
  have HUg : Hid (∀ W, Calls Tryz.prog 60 #[.int .i64 g] W fun e w' => e = .returned (.string (n4 g).ba) ∧ Fr [] W w') := fun W => number_any g W
  obtain ⟨ba, hba⟩ : ∃ ba, (n4 num).ba = ba := ⟨_, rfl⟩
  obtain ⟨bg, hbg⟩ : ∃ bg, (n4 g).ba = bg := ⟨_, rfl⟩
  have hsa : ba.size = 4 := by rw [← hba]; rfl
  have hsg : bg.size = 4 := by rw [← hbg]; rfl
  rw [hba] at HU
  rw [hbg] at HUg
  have hwr : IntKind.u8.wrap p = ((byt p).toNat : Int) := by rw [← byt_eq]; simp [IntKind.wrap, IntKind.bits, IntKind.signed]
  have hwm : p % 256 = ((byt p).toNat : Int) := byt_eq p
  obtain ⟨yp, hyp⟩ : ∃ yp, byt p = yp := ⟨_, rfl⟩
  rw [hyp] at hwr hwm
  have hsz : (⟨#[k, yp]⟩ : ByteArray).size = 2 := rfl
  have hs6 : (⟨#[k, yp]⟩ ++ ba : ByteArray).size = 6 := by rw [ByteArray.size_append, hsz, hsa]
  have HY : Hid ((⟨#[k, yp]⟩ ++ ba : ByteArray) = ofL (lhead k p num) ∧ bg = ofL (n4 g).list' ∧ ofL st.data.toList = st) := by
    refine ⟨?_, by rw [← hbg]; rfl, ofL_back st⟩
    rw [← hba, ← hyp]
    exact lhead_eq k p num
  have hcv : ∀ W : World, (convert 50 9 (.slice (some ⟨W.heap.size, 0, none⟩) 2 2)).run Tryz.prog (W.alloc (.cells #[.int .u8 (k.toNat : Int), .int .u8 (yp.toNat : Int)] 5)) = .ok (.string ⟨#[k, yp]⟩) (W.alloc (.cells #[.int .u8 (k.toNat : Int), .int .u8 (yp.toNat : Int)] 5)) := fun W => conv2_after (Fr.refl _ _)
  have hcv0 : (convert 50 9 (.slice (some ⟨w0.heap.size, 0, none⟩) 2 2)).run Tryz.prog (w0.alloc (.cells #[.int .u8 (k.toNat : Int), .int .u8 (yp.toNat : Int)] 5)).drew = .ok (.string ⟨#[k, yp]⟩) (w0.alloc (.cells #[.int .u8 (k.toNat : Int), .int .u8 (yp.toNat : Int)] 5)).drew := conv2_after ((Fr.refl [] _).drew)
  obtain ⟨hd, hhd⟩ : ∃ hd, (⟨#[k, yp]⟩ ++ ba : ByteArray) = hd := ⟨_, rfl⟩
  have hs7 : hd.size = 6 := by rw [← hhd]; exact hs6
  rw [hhd] at HY
  have hw0' := hw0
  clear hw0 b0 F0 hba hbg hyp
  go_enter Tryz.func38, Tryz.ntmps38
  go_wp2
  go_region_held (fun w' => w'.cell? ⟨bx, 0, none⟩ = some (.int .u8 (k.toNat : Int)) ∧ w'.cell? ⟨bx, 1, none⟩ = some (.int .i64 p) ∧ w'.cell? ⟨bx, 2, none⟩ = some (.int .i64 num))
    (first
      | go_keep
      | (go_split_ands
         refine ⟨?_, ?_, ?_⟩ <;> (rw [World.cell?_of_block (f5.block bx (World.block_lt_of_cell? _ ⟨bx, 0, none⟩ (by assumption)) (by simp))]; assumption)))
    (first
    | (go_at_call_of 60 (Value.int .i64 num); refine (HU.out _).mono ?_; rintro e w5 ⟨rfl, f5⟩
       try have hc5 : (convert 50 9 (.slice (some ⟨w0.heap.size, 0, none⟩) 2 2)).run Tryz.prog w5 = _ := conv2_after (x := k) (y := yp) (((Fr.refl [] _).drew).tr f5)))
  all_goals
    have HF5 : Hid (Fr [] w0 w5) := by first | exact ((Fr.refl [] w0).alloc _).drew.tr f5 | exact (Fr.refl [] w0).drew.tr f5
    have y0 := (HX.out w5 HF5.out).1
    have y3 := (HX.out w5 HF5.out).2.2.2.1
    have y4 := (HX.out w5 HF5.out).2.2.2.2
    have lb5 : bx < w5.heap.size := World.block_lt_of_cell? _ _ y0
    clear f5 hcv hcv0 hwr hwm
    go_wp2_with (go_at_call_of 60 (Value.int .i64 g); refine (HUg.out _).mono ?_; rintro e w7 ⟨rfl, f7⟩; have H7 : Hid (Fr [] w w7) := (by first | exact (HB.out.1.tr HF5.out).tr f7 | exact ((HB.out.1.tr HF5.out).alloc _).tr f7); clear f7)
    go_ret
    exact ⟨congrArg (fun t => Ending.returned (Value.string t)) (show hd ++ bg = ofL (lhead k p num ++ (n4 g).list') by rw [← ofL_append, ← HY.out.1, ← HY.out.2.1]), H7.out⟩

set_option maxRecDepth 100000 in
set_option maxHeartbeats 1600000 in
theorem text_got (k : UInt8) (p num : Int) (st : ByteArray) (g : Int) (w : World) (h1 : ((k.toNat : Int) == 68) = false) (h2 : ((k.toNat : Int) == 72) = false) (h3 : ((k.toNat : Int) == 71) = true) :
    Calls Tryz.prog 38 #[.agg #[.int .u8 (k.toNat : Int), .int .i64 p, .int .i64 num, .string st, .int .i64 g]] w fun e w' => e = .returned (.string (ofL (lhead k p num ++ (n4 g).list'))) ∧ Fr [] w w' := by
  obtain ⟨bx, hbx⟩ : ∃ bx, w.heap.size = bx := ⟨_, rfl⟩
  obtain ⟨w0, hw0⟩ : ∃ w0, w.alloc (.cells #[.int .u8 (k.toNat : Int), .int .i64 p, .int .i64 num, .string st, .int .i64 g] 100) = w0 := ⟨_, rfl⟩
  have b0 : w0.heap[bx]? = some (.cells #[.int .u8 (k.toNat : Int), .int .i64 p, .int .i64 num, .string st, .int .i64 g] 100 (0, 0)) := by rw [← hw0, ← hbx]; exact heap_alloc_new w _
  have F0 : Fr [] w w0 := by rw [← hw0]; exact (Fr.refl _ _).alloc _
  have HB : Hid (Fr [] w w0 ∧ bx < w0.heap.size) := ⟨F0, (Array.getElem?_eq_some_iff.1 b0).1⟩
  have HX : Hid (∀ W, Fr [] w0 W → W.cell? ⟨bx, 0, none⟩ = some (.int .u8 (k.toNat : Int)) ∧ W.cell? ⟨bx, 1, none⟩ = some (.int .i64 p) ∧ W.cell? ⟨bx, 2, none⟩ = some (.int .i64 num) ∧ W.cell? ⟨bx, 3, none⟩ = some (.string st) ∧ W.cell? ⟨bx, 4, none⟩ = some (.int .i64 g)) := fun W hW => by
    have hh : W.heap[bx]? = _ := (hW.block bx (Array.getElem?_eq_some_iff.1 b0).1 (by simp)).trans b0
    exact ⟨by rw [cell_of hh]; rfl, by rw [cell_of hh]; rfl, by rw [cell_of hh]; rfl, by rw [cell_of hh]; rfl, by rw [cell_of hh]; rfl⟩
  have x0 := (HX.out w0 (Fr.refl _ _)).1
  have x1 := (HX.out w0 (Fr.refl _ _)).2.1
  have x2 := (HX.out w0 (Fr.refl _ _)).2.2.1
  have lbx : bx < w0.heap.size := HB.out.2
  have HU : Hid (∀ W, Calls Tryz.prog 60 #[.int .i64 num] W fun e w' => e = .returned (.string (n4 num).ba) ∧ Fr [] W w') := fun W => number_any num W
  have HUg : Hid (∀ W, Calls Tryz.prog 60 #[.int .i64 g] W fun e w' => e = .returned (.string (n4 g).ba) ∧ Fr [] W w') := fun W => number_any g W
  obtain ⟨ba, hba⟩ : ∃ ba, (n4 num).ba = ba := ⟨_, rfl⟩
  obtain ⟨bg, hbg⟩ : ∃ bg, (n4 g).ba = bg := ⟨_, rfl⟩
  have hsa : ba.size = 4 := by rw [← hba]; rfl
  have hsg : bg.size = 4 := by rw [← hbg]; rfl
  rw [hba] at HU
  rw [hbg] at HUg
  have hwr : IntKind.u8.wrap p = ((byt p).toNat : Int) := by rw [← byt_eq]; simp [IntKind.wrap, IntKind.bits, IntKind.signed]
  have hwm : p % 256 = ((byt p).toNat : Int) := byt_eq p
  obtain ⟨yp, hyp⟩ : ∃ yp, byt p = yp := ⟨_, rfl⟩
  rw [hyp] at hwr hwm
  have hsz : (⟨#[k, yp]⟩ : ByteArray).size = 2 := rfl
  have hs6 : (⟨#[k, yp]⟩ ++ ba : ByteArray).size = 6 := by rw [ByteArray.size_append, hsz, hsa]
  have HY : Hid ((⟨#[k, yp]⟩ ++ ba : ByteArray) = ofL (lhead k p num) ∧ bg = ofL (n4 g).list' ∧ ofL st.data.toList = st) := by
    refine ⟨?_, by rw [← hbg]; rfl, ofL_back st⟩
    rw [← hba, ← hyp]
    exact lhead_eq k p num
  have hcv : ∀ W : World, (convert 50 9 (.slice (some ⟨W.heap.size, 0, none⟩) 2 2)).run Tryz.prog (W.alloc (.cells #[.int .u8 (k.toNat : Int), .int .u8 (yp.toNat : Int)] 5)) = .ok (.string ⟨#[k, yp]⟩) (W.alloc (.cells #[.int .u8 (k.toNat : Int), .int .u8 (yp.toNat : Int)] 5)) := fun W => conv2_after (Fr.refl _ _)
  have hcv0 : (convert 50 9 (.slice (some ⟨w0.heap.size, 0, none⟩) 2 2)).run Tryz.prog (w0.alloc (.cells #[.int .u8 (k.toNat : Int), .int .u8 (yp.toNat : Int)] 5)).drew = .ok (.string ⟨#[k, yp]⟩) (w0.alloc (.cells #[.int .u8 (k.toNat : Int), .int .u8 (yp.toNat : Int)] 5)).drew := conv2_after ((Fr.refl [] _).drew)
  obtain ⟨hd, hhd⟩ : ∃ hd, (⟨#[k, yp]⟩ ++ ba : ByteArray) = hd := ⟨_, rfl⟩
  have hs7 : hd.size = 6 := by rw [← hhd]; exact hs6
  rw [hhd] at HY
  have hw0' := hw0
  clear hw0 b0 F0 hba hbg hyp
  go_enter Tryz.func38, Tryz.ntmps38
  go_wp2
  go_region_held (fun w' => w'.cell? ⟨bx, 0, none⟩ = some (.int .u8 (k.toNat : Int)) ∧ w'.cell? ⟨bx, 1, none⟩ = some (.int .i64 p) ∧ w'.cell? ⟨bx, 2, none⟩ = some (.int .i64 num))
    (first
      | go_keep
      | (go_split_ands
         refine ⟨?_, ?_, ?_⟩ <;> (rw [World.cell?_of_block (f5.block bx (World.block_lt_of_cell? _ ⟨bx, 0, none⟩ (by assumption)) (by simp))]; assumption)))
    (first
    | (go_at_call_of 60 (Value.int .i64 num); refine (HU.out _).mono ?_; rintro e w5 ⟨rfl, f5⟩
       try have hc5 : (convert 50 9 (.slice (some ⟨w0.heap.size, 0, none⟩) 2 2)).run Tryz.prog w5 = _ := conv2_after (x := k) (y := yp) (((Fr.refl [] _).drew).tr f5)))
  all_goals
    have HF5 : Hid (Fr [] w0 w5) := by first | exact ((Fr.refl [] w0).alloc _).drew.tr f5 | exact (Fr.refl [] w0).drew.tr f5
    have y0 := (HX.out w5 HF5.out).1
    have y3 := (HX.out w5 HF5.out).2.2.2.1
    have y4 := (HX.out w5 HF5.out).2.2.2.2
    have lb5 : bx < w5.heap.size := World.block_lt_of_cell? _ _ y0
    clear f5 hcv hcv0 hwr hwm
    go_wp2_with (go_at_call_of 60 (Value.int .i64 g); refine (HUg.out _).mono ?_; rintro e w7 ⟨rfl, f7⟩; have H7 : Hid (Fr [] w w7) := (by first | exact (HB.out.1.tr HF5.out).tr f7 | exact ((HB.out.1.tr HF5.out).alloc _).tr f7); clear f7)
    go_ret
    exact ⟨congrArg (fun t => Ending.returned (Value.string t)) (show hd ++ bg = ofL (lhead k p num ++ (n4 g).list') by rw [← ofL_append, ← HY.out.1, ← HY.out.2.1]), H7.out⟩
end Go.Proofs.YthdhegmlknpllabGreatDoor
