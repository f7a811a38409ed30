/-
  The walks of New (34), At (37), Snaps (20).
-/
import Derived.Test.YthdhegmlknpllaaGreatAddw
import Derived.Carry
namespace Go.Proofs.YthdhegmlknpllaaGreat
open Go.RowKit Go.Maps Go.MuLone

theorem Rep.look {B : Nat} {w : World} {b : Nat} {q : Int} {s : Sto} (h : Rep B w b q s) {g i : Int} (hg : In64 g) (hi : In64 i) :
    (Instr.lookup 64 (.map (some s.mb)) (.agg #[.int .i64 g, .int .i64 i]) false).run Tryz.prog w = .ok (s.th g i).val w := by
  obtain ⟨D, hD, hr⟩ := h.th
  obtain ⟨v, ps, h1, h2⟩ := hD.lookup law118 Tryz.underlying64 (z := Ct.zero.val) (Tryz.zeroValue112 w) (show RV Ct.zero.val = some (.held Ct.zero.val, []) from rfl) (key_mk hg hi)
  rw [hr g i hg hi] at h2
  simp [RV] at h2
  rw [h1, h2.1]

set_option maxRecDepth 100000 in
set_option maxHeartbeats 800000 in
theorem at_ok (B b : Nat) (s : Sto) (g : Int) (k : Nat) (w : World) (h : Rep B w b 0 s) (hl : s.ss.length ≤ 1000000) (hg : In64 g) (hx : ∃ x ∈ s.ss, (x.guid == g) = true) (hk : k < s.vol.length) (hv : s.vol.length ≤ 16) :
    Calls Tryz.prog 35 #[.pointer (some ⟨b, 0, none⟩), .int .i64 g, .int .i64 k] w fun e w' => e = .returned (.tuple #[(s.th g k).x.str, .int .i64 0]) ∧ Rep B w' b 0 s ∧ Fr (foot b s) w w' := by
  have R1 := h.lock 1
  obtain ⟨w1, hw1⟩ : ∃ w1, w.setCell ⟨b, 0, none⟩ (.int .i32 1) = w1 := ⟨_, rfl⟩
  rw [hw1] at R1
  have HL := lock_free Tryz.muLib ⟨b, 0, none⟩ w h.cells.1 (h.frozen 0)
  have F1 : Fr (foot b s) w w1 := by rw [← hw1]; exact fr_lock b s w _
  have HF : Hid (w.setCell ⟨b, 0, none⟩ (.int .i32 1) = w1 ∧ Rep B w1 b 1 s ∧ Fr (foot b s) w w1) := ⟨hw1, R1, F1⟩
  obtain ⟨j, hj, e0, _⟩ := fi_some s.ss 0 hx
  have HS := findSnapshot_any B b 1 s g w1 R1 hl
  rw [e0, Nat.zero_add] at HS
  have HC : Hid (∀ W, _) := fun W => hasBlock_any B b 1 s k W
  have hb : (decide ((0 : Int) ≤ (k : Int)) && decide ((k : Int) < (s.vol.length : Int))) = true := by simp; omega
  have HK : Hid (∀ W, Rep B W b 1 s → _) := fun W hW => Rep.look hW hg (i := (k : Int)) ⟨by omega, by omega⟩
  obtain ⟨x, hxx⟩ : ∃ x, s.th g k = x := ⟨_, rfl⟩
  rw [hxx] at HK ⊢
  have hcv := fun W : World => str_conv (w := W.alloc (.cells #[u8 x.x.a, u8 x.x.b, u8 x.x.c, u8 x.x.d, .int .i64 x.n] 112)) (vb := W.heap.size) (o := 0) (x := x.x) (by simp) (by simp) (by simp) (by simp)
  have hcv' : ∀ W : World, (convert 74 9 (.slice (some ⟨W.heap.size, 0, none⟩) 4 4)).run Tryz.prog (W.alloc (.cells #[.int .u8 (x.x.a.toNat : Int), .int .u8 (x.x.b.toNat : Int), .int .u8 (x.x.c.toNat : Int), .int .u8 (x.x.d.toNat : Int), .int .i64 x.n] 112)) = .ok x.x.str (W.alloc (.cells #[.int .u8 (x.x.a.toNat : Int), .int .u8 (x.x.b.toNat : Int), .int .u8 (x.x.c.toNat : Int), .int .u8 (x.x.d.toNat : Int), .int .i64 x.n] 112)) := hcv
  clear h R1 F1 hw1 hxx hx hcv e0
  go_enter_defers Tryz.func35, Tryz.ntmps35
  go_wp2_with (first
    | (go_at_call 23; refine HL.mono ?_; rintro e w' ⟨rfl, hw'⟩; rw [HF.out.1] at hw'; subst hw')
    | (go_at_call 65; refine HS.mono ?_; rintro e w2 ⟨rfl, hfr⟩
       have HR2 : Hid (Rep B w2 b 1 s ∧ Fr (foot b s) w w2) := ⟨HF.out.2.1.kept0 hfr, HF.out.2.2.trans hfr (by simp)⟩
       have c5 : w2.cell? ⟨b, 5, none⟩ = some (.map (some s.mb)) := HR2.out.1.cells.2.2.2.2.1
       have lk : (Instr.lookup 64 (.map (some s.mb)) (.agg #[.int .i64 g, .int .i64 k]) false).run Tryz.prog w2 = .ok (.agg #[.int .u8 (x.x.a.toNat : Int), .int .u8 (x.x.b.toNat : Int), .int .u8 (x.x.c.toNat : Int), .int .u8 (x.x.d.toNat : Int), .int .i64 x.n]) w2 := HK.out w2 HR2.out.1
       have hcw := hcv' w2
       have HR3 : Hid (Rep B (w2.alloc (.cells #[.int .u8 (x.x.a.toNat : Int), .int .u8 (x.x.b.toNat : Int), .int .u8 (x.x.c.toNat : Int), .int .u8 (x.x.d.toNat : Int), .int .i64 x.n] 112)) b 1 s ∧ Fr (foot b s) w (w2.alloc (.cells #[.int .u8 (x.x.a.toNat : Int), .int .u8 (x.x.b.toNat : Int), .int .u8 (x.x.c.toNat : Int), .int .u8 (x.x.d.toNat : Int), .int .i64 x.n] 112))) := ⟨HR2.out.1.kept0 ((Fr.refl _ _).alloc _), HR2.out.2.alloc _⟩
       clear hfr hcv')
    | (go_at_call 60; refine (HC.out _ HR2.out.1).mono ?_; rintro e w' ⟨rfl, hw'⟩; have hw' := hw'.symm; subst hw'; rw [hb]))
  refine leaves_cons (f := 24) (args := #[.pointer (some ⟨b, 0, none⟩)]) (by simp) (by simp [go_sem]) ?_
  refine (unlock_deferred Tryz.muLib ⟨b, 0, none⟩ .returning _ HR3.out.1.cells.1 (HR3.out.1.frozen 0)).mono ?_
  rintro e u' w'' ⟨rfl, rfl, rfl⟩
  exact ⟨_, results_tmp2 rfl _ _ _, rfl, HR3.out.1.lock 0, HR3.out.2.setCell _ (Or.inl (by simp [foot]))⟩

theorem info97 : (Tryz.prog.info? 112).map (fun i => (i.zero, i.size, i.bytes)) = some (some (.agg #[.int .u8 0, .int .u8 0, .int .u8 0, .int .u8 0, .int .i64 0]), 5, 16) := by kernel_rfl
theorem made_vol (n : Nat) (hn : n ≤ 16) : (madeCells (Value.agg #[.int .u8 0, .int .u8 0, .int .u8 0, .int .u8 0, .int .i64 0]).cells (n * 5)).toList = volC (List.replicate n Ct.zero) := by
  rcases (by omega : n = 0 ∨ n = 1 ∨ n = 2 ∨ n = 3 ∨ n = 4 ∨ n = 5 ∨ n = 6 ∨ n = 7 ∨ n = 8 ∨ n = 9 ∨ n = 10 ∨ n = 11 ∨ n = 12 ∨ n = 13 ∨ n = 14 ∨ n = 15 ∨ n = 16) with h | h | h | h | h | h | h | h | h | h | h | h | h | h | h | h | h <;> subst h <;> kernel_rfl

/-- A new store. -/
def Sto.fresh (id : Int) (n vb mb : Nat) : Sto :=
  { id := id, vol := List.replicate n Ct.zero, ss := [], th := fun _ _ => Ct.zero, ms := [], came := 0, taken := 0, vb := vb, mb := mb, cnt := 0, sv := .slice none 0 0, mv := .slice none 0 0, log := [], lv := .slice none 0 0 }

theorem own_full {w : World} {base g n size : Nat} {e : TypeId} {xs : List Value} (h : w.ownsRow base e size (.slice (some ⟨g, 0, none⟩) n n) n xs) : w.heap[g]? = some (.cells xs.toArray e (0, 0)) := by
  rcases h.2 with ⟨h1, _⟩ | ⟨g', c, cur, h1, hb, hg, hc, hm, hs, ht⟩
  · simp at h1
  · simp at h1
    obtain ⟨rfl, rfl⟩ := h1
    rw [hg, ← ht, List.take_of_length_le (by rw [Array.length_toList, hs]; exact Nat.le_refl _)]

/-- The store before its first note. -/
theorem fresh_rep {w w1 : World} {id : Int} {n : Nat} (hb : w1.heap[w.heap.size]? = some (.cells (volC (List.replicate n Ct.zero)).toArray 112 (0, 0))) (l1 : w.heap.size < w1.heap.size) :
    Rep w.heap.size ((w1.alloc (.map #[] 0)).alloc (.cells #[.int .i32 0, .int .u32 0, .int .i64 id, .slice (some ⟨w.heap.size, 0, none⟩) n n, .slice none 0 0, .map (some w1.heap.size), .slice none 0 0, .int .i64 0, .int .i64 0, .slice none 0 0] 76)) (w1.heap.size + 1) 0 (Sto.fresh id n w.heap.size w1.heap.size) := by
  refine ⟨?_, ?_, ?_, ?_, ?_, ?_, ?_, ?_, ?_⟩
  · have := heap_alloc_new (w1.alloc (.map #[] 0)) (.cells #[.int .i32 0, .int .u32 0, .int .i64 id, .slice (some ⟨w.heap.size, 0, none⟩) n n, .slice none 0 0, .map (some w1.heap.size), .slice none 0 0, .int .i64 0, .int .i64 0, .slice none 0 0] 76)
    rw [show (w1.alloc (.map #[] 0)).heap.size = w1.heap.size + 1 by simp] at this
    rw [this]
    simp [Sto.blk, Sto.fresh]
  · rw [Below.heap_alloc _ _ _ (by simp [Sto.fresh]; omega), Below.heap_alloc _ _ _ (by simp [Sto.fresh]; omega)]
    exact hb
  · exact World.ownsRow_nil _ _ _ _
  · refine MapOf.of_block (w := w1.alloc (.map #[] 0)) ⟨.map [], World.ownsMap_made w1 _ _ _, fun g i _ _ => ?_⟩ (Below.heap_alloc _ _ _ (by simp [Sto.fresh]))
    rfl
  · exact World.ownsRow_nil _ _ _ _
  · exact World.ownsRow_nil _ _ _ _
  · show w.heap.size ≤ w1.heap.size + 1
    omega
  · exact Nat.le_refl _
  · show w.heap.size ≤ w1.heap.size
    omega

/-- What New stands as. -/
def ntext (id : Int) (n : Nat) : ByteArray := (n4 id).ba ++ ⟨#[byt n]⟩

theorem conv_after {W w5 : World} {y : UInt8} (f : Fr [] (W.alloc (.cells #[.int .u8 (y.toNat : Int)] 5)) w5) : (convert 74 9 (.slice (some ⟨W.heap.size, 0, none⟩) 1 1)).run Tryz.prog w5 = .ok (.string ⟨#[y]⟩) w5 := by
  refine conv1 ?_
  rw [World.cell?_of_block (f.block W.heap.size (by simp) (by simp))]
  simp [u8]

/-- New's note. -/
theorem new_note {w W0 W : World} {b : Nat} {s : Sto} {t : ByteArray} (h0 : Rep w.heap.size W0 b 0 s) (f0 : Fr [] w W0) (f : Fr [] W0 W) (ht : t.size ≤ 1000) (hl : s.log.length ≤ 140000000000000) :
    Calls Tryz.prog 21 #[.pointer (some ⟨b, 0, none⟩), .int .u8 78, .string t] W fun e w' => e = .returned (.tuple #[]) ∧ ∃ lv, Rep w.heap.size w' b 0 (s.noted 78 t lv) ∧ Fr [] w w' := by
  have hr := h0.kept0 f
  refine (note_any w.heap.size b 0 s 78 t W hr ht hl).mono ?_
  rintro e w' ⟨rfl, lv, r, f6, _⟩
  exact ⟨rfl, lv, r, (f0.trans f (by simp)).trans f6 (fun k hk => Or.inr (hr.lt k hk).1)⟩

set_option maxRecDepth 100000 in
set_option maxHeartbeats 1600000 in
theorem new_ok (id : Int) (n : Nat) (w : World) (h1 : 1 ≤ id ∧ id ≤ 999) (h2 : 1 ≤ n ∧ n ≤ 16) :
    Calls Tryz.prog 12 #[.int .i64 id, .int .i64 n] w fun e w' => ∃ b vb mb lv, e = .returned (.tuple #[.pointer (some ⟨b, 0, none⟩), .int .i64 0]) ∧ Rep w.heap.size w' b 0 ((Sto.fresh id n vb mb).noted 78 (ntext id n) lv) ∧ Fr [] w w' := by
  obtain ⟨i0, hi, hz0, hz1, hz2⟩ := info_parts info97
  have t1 : decide (id < 1) = false := by simp; omega
  have t2 : decide (id > 999) = false := by simp; omega
  have t3 : decide ((n : Int) < 1) = false := by simp; omega
  have t4 : decide ((n : Int) > 16) = false := by simp; omega
  have hmm : ∀ W, (Instr.makeMap 64 none).run Tryz.prog W = .ok (.map (some W.heap.size)) (W.alloc (.map #[] 0)) := fun W => run_makeMap 64 W
  go_enter Tryz.func12, Tryz.ntmps12
  go_wp2_with (at_make; refine wpList_make_full _ rfl _ _ 63 rfl w.heap.size 112 i0 _ 5 Tryz.underlying63 hi hz0 hz1 _ _ _ _ n rfl rfl rfl rfl (by rw [hz2]; omega) (by unfold maxLen; omega) (by simp) ?_; intro w1 hown1 hgrow1)
  rw [made_vol n h2.2] at hown1
  have hb := own_full hown1
  have l1 : w.heap.size < w1.heap.size := (Array.getElem?_eq_some_iff.1 hb).1
  have Fr1 : Fr [] w w1 := (Fr.refl _ _).grown hgrow1 (fun k h => by cases h)
  have HR0 : Hid (_ ∧ Fr [] w ((w1.alloc (.map #[] 0)).alloc (.cells #[.int .i32 0, .int .u32 0, .int .i64 id, .slice (some ⟨w.heap.size, 0, none⟩) n n, .slice none 0 0, .map (some w1.heap.size), .slice none 0 0, .int .i64 0, .int .i64 0, .slice none 0 0] 76))) := ⟨fresh_rep (id := id) (n := n) hb l1, (Fr1.alloc _).alloc _⟩
  obtain ⟨W0, hW0⟩ : ∃ W0, (w1.alloc (.map #[] 0)).alloc (.cells #[.int .i32 0, .int .u32 0, .int .i64 id, .slice (some ⟨w.heap.size, 0, none⟩) n n, .slice none 0 0, .map (some w1.heap.size), .slice none 0 0, .int .i64 0, .int .i64 0, .slice none 0 0] 76) = W0 := ⟨_, rfl⟩
  rw [hW0] at HR0 ⊢
  obtain ⟨b, hbb⟩ : ∃ b, w1.heap.size + 1 = b := ⟨_, rfl⟩
  obtain ⟨mb, hmb⟩ : ∃ mb, w1.heap.size = mb := ⟨_, rfl⟩
  rw [hbb, hmb] at HR0
  rw [hbb, hmb]
  have HU : Hid (∀ W, _) := fun W => number_any id W
  obtain ⟨ba, hba⟩ : ∃ ba, (n4 id).ba = ba := ⟨_, rfl⟩
  rw [hba] at HU
  clear hown1 hgrow1 hb l1 Fr1 hW0 hbb hmb
  have hwr : IntKind.u8.wrap (n : Int) = ((byt n).toNat : Int) := by rw [← byt_eq]; simp [IntKind.wrap, IntKind.bits, IntKind.signed]
  obtain ⟨y, hy⟩ : ∃ y, byt n = y := ⟨_, rfl⟩
  rw [hy] at hwr
  have HY : Hid (byt n = y ∧ (n4 id).ba = ba) := ⟨hy, hba⟩
  have hcv : ∀ W : World, (convert 74 9 (.slice (some ⟨W.heap.size, 0, none⟩) 1 1)).run Tryz.prog (W.alloc (.cells #[.int .u8 (y.toNat : Int)] 5)) = .ok (.string ⟨#[y]⟩) (W.alloc (.cells #[.int .u8 (y.toNat : Int)] 5)) := fun W => conv_after (Fr.refl _ _)
  have hcv0 : (convert 74 9 (.slice (some ⟨W0.heap.size, 0, none⟩) 1 1)).run Tryz.prog (W0.alloc (.cells #[.int .u8 (y.toNat : Int)] 5)).drew = .ok (.string ⟨#[y]⟩) (W0.alloc (.cells #[.int .u8 (y.toNat : Int)] 5)).drew := conv_after ((Fr.refl [] _).drew)
  have hsa : ba.size = 4 := by rw [← hba]; rfl
  have hsy : (⟨#[y]⟩ : ByteArray).size = 1 := rfl
  clear hy hba
  go_region_with (first
    | (go_at_call 22; refine (HU.out _).mono ?_; rintro e w5 ⟨rfl, f5⟩; first | (have hc5 : (convert 74 9 (.slice (some ⟨W0.heap.size, 0, none⟩) 1 1)).run Tryz.prog w5 = _ := conv_after f5) | (have hc5 : (convert 74 9 (.slice (some ⟨W0.heap.size, 0, none⟩) 1 1)).run Tryz.prog w5 = _ := conv_after (y := y) (((Fr.refl [] _).drew).trans f5 (by simp))) | skip)
    | (go_at_call 21; refine (new_note HR0.out.1 HR0.out.2 (by first | exact ((((Fr.refl [] W0).drew).trans f5 (by simp)).alloc _) | exact (((Fr.refl [] W0).drew.alloc _).trans f5 (by simp)) | exact (((Fr.refl [] W0).alloc _).drew.trans f5 (by simp)) | exact (((Fr.refl [] W0).trans f5 (by simp)).alloc _) | exact (((Fr.refl [] W0).trans f5 (by simp)).alloc _).drew | exact ((((Fr.refl [] W0).drew).trans f5 (by simp)).alloc _).drew | exact (((Fr.refl [] W0).alloc _).trans f5 (by simp)).drew | exact (((Fr.refl [] W0).alloc _).trans f5 (by simp))) (by rw [ByteArray.size_append, hsa, hsy]; omega) (by show 0 ≤ 140000000000000; omega)).mono ?_; rintro e w6 ⟨rfl, lv, r6, f6⟩; have HR6 : Hid (Rep w.heap.size w6 b 0 ((Sto.fresh id n w.heap.size mb).noted 78 (ba ++ ⟨#[y]⟩) lv) ∧ Fr [] w w6) := ⟨r6, f6⟩; clear r6 f6))
  all_goals
    go_wp2
    go_ret2
    refine ⟨b, w.heap.size, mb, lv, rfl, ?_, HR6.out.2⟩
    unfold ntext
    rw [HY.out.1, HY.out.2]
    exact HR6.out.1

/-! Snaps. -/
def t3 (x : Sn) : Int × Int × Int := (x.guid, x.time, x.holds)
def t3c (x : Int × Int × Int) : List Value := [.int .i64 x.1, .int .i64 x.2.1, .int .i64 x.2.2]
def tlC (l : List (Int × Int × Int)) : List Value := l.flatMap t3c
theorem tlC_len (l : List (Int × Int × Int)) : (tlC l).length = l.length * 3 := by
  induction l with
  | nil => rfl
  | cons x r ih => simp [tlC, t3c] at ih ⊢; omega
theorem set3 : ∀ (l : List (Int × Int × Int)) (k : Nat) (x : Int × Int × Int), k < l.length → (((tlC l).set (k * 3) (.int .i64 x.1)).set (k * 3 + 1) (.int .i64 x.2.1)).set (k * 3 + 2) (.int .i64 x.2.2) = tlC (l.set k x)
  | [], k, _, h => by simp at h
  | y :: r, 0, x, _ => by simp [tlC, t3c]
  | y :: r, k + 1, x, h => by
    have ih := set3 r k x (by simpa using h)
    have e : (k + 1) * 3 = k * 3 + 3 := by omega
    simp only [tlC, List.flatMap_cons, List.set_cons_succ, t3c, List.cons_append, List.nil_append, e] at ih ⊢
    simpa [List.set_cons_succ] using ih
def told (l : List Sn) (k : Nat) : List (Int × Int × Int) := (l.take k).map t3 ++ List.replicate (l.length - k) (0, 0, 0)
theorem told_len (l : List Sn) (k : Nat) (h : k ≤ l.length) : (told l k).length = l.length := by simp [told]; omega
theorem told_set (l : List Sn) (k : Nat) (h : k < l.length) : (told l k).set k (t3 l[k]) = told l (k + 1) := by
  unfold told
  rw [List.set_append_right _ _ (by simp; omega), List.length_map, List.length_take, Nat.min_eq_left (Nat.le_of_lt h), Nat.sub_self, show l.length - k = (l.length - (k + 1)) + 1 by omega, List.replicate_succ, List.set_cons_zero, List.take_succ_eq_append_getElem h, List.map_append, List.append_assoc]
  rfl
theorem told_end (l : List Sn) : told l l.length = l.map t3 := by simp [told]
theorem made_told (l : List Sn) (h : l.length ≤ 12) : (madeCells (Value.agg #[.int .i64 0, .int .i64 0, .int .i64 0]).cells (l.length * 3)).toList = tlC (told l 0) := by
  rw [show told l 0 = List.replicate l.length (0, 0, 0) by simp [told]]
  obtain ⟨n, hn⟩ : ∃ n, l.length = n := ⟨_, rfl⟩
  rw [hn] at h ⊢
  rcases (by omega : n = 0 ∨ n = 1 ∨ n = 2 ∨ n = 3 ∨ n = 4 ∨ n = 5 ∨ n = 6 ∨ n = 7 ∨ n = 8 ∨ n = 9 ∨ n = 10 ∨ n = 11 ∨ n = 12) with h | h | h | h | h | h | h | h | h | h | h | h | h <;> subst h <;> kernel_rfl
theorem info100 : (Tryz.prog.info? 61).map (fun i => (i.zero, i.size, i.bytes)) = some (some (.agg #[.int .i64 0, .int .i64 0, .int .i64 0]), 3, 24) := by kernel_rfl

set_option maxRecDepth 100000 in
set_option maxHeartbeats 1600000 in
theorem snaps_any (B b : Nat) (s : Sto) (w : World) (h : Rep B w b 0 s) (hl : s.ss.length ≤ 12) :
    Calls Tryz.prog 31 #[.pointer (some ⟨b, 0, none⟩)] w fun e w' => ∃ gg, e = .returned (.slice (some ⟨gg, 0, none⟩) s.ss.length s.ss.length) ∧ w.heap.size ≤ gg ∧ w'.heap[gg]? = some (.cells (tlC (s.ss.map t3)).toArray 61 (0, 0)) ∧ Rep B w' b 0 s ∧ Fr (foot b s) w w' := by
  obtain ⟨i0, hi, hz0, hz1, hz2⟩ := info_parts info100
  have R1 := h.lock 1
  obtain ⟨w1, hw1⟩ : ∃ w1, w.setCell ⟨b, 0, none⟩ (.int .i32 1) = w1 := ⟨_, rfl⟩
  rw [hw1] at R1
  have HL := lock_free Tryz.muLib ⟨b, 0, none⟩ w h.cells.1 (h.frozen 0)
  have F1 : Fr (foot b s) w w1 := by rw [← hw1]; exact fr_lock b s w _
  have hz : w1.heap.size = w.heap.size := by rw [← hw1]; simp
  have HF : Hid (w.setCell ⟨b, 0, none⟩ (.int .i32 1) = w1 ∧ Rep B w1 b 1 s ∧ Fr (foot b s) w w1 ∧ w1.heap.size = w.heap.size) := ⟨hw1, R1, F1, hz⟩
  obtain ⟨ao, cap, hsv⟩ := own_shape h.ss
  have c4 : w1.cell? ⟨b, 4, none⟩ = some (.slice ao s.ss.length cap) := by rw [← hsv]; exact R1.cells.2.2.2.1
  have lb := World.block_lt_of_cell? _ _ c4
  obtain ⟨n, hn⟩ : ∃ n, s.ss.length = n := ⟨_, rfl⟩
  have HN : Hid (s.ss.length = n ∧ s.sv = .slice ao n cap) := ⟨hn, by rw [hsv, hn]⟩
  rw [hn] at c4 hl ⊢
  clear h R1 F1 hw1 hz hn hsv
  go_enter_defers Tryz.func31, Tryz.ntmps31
  go_wp2_with (first
    | (go_at_call 23; refine HL.mono ?_; rintro e w' ⟨rfl, hw'⟩; rw [HF.out.1] at hw'; have hw' := hw'.symm; subst hw')
    | (at_make; refine wpList_make_full _ rfl _ _ 62 rfl w1.heap.size 61 i0 _ 3 Tryz.underlying62 hi hz0 hz1 _ _ _ _ n rfl rfl rfl rfl (by rw [hz2]; omega) (by unfold maxLen; omega) (by simp) ?_; intro w2 hown2 hgrow2; have c4' : w2.cell? ⟨b, 4, none⟩ = some (.slice ao n cap) := (hgrow2.cell_far ⟨b, 4, none⟩ lb (by simp)).trans c4))
  have hz' := HF.out.2.2.2
  have hd : w2.heap[w1.heap.size]? = some (.cells (tlC (told s.ss 0)).toArray 61 (0, 0)) := by
    have := own_full hown2
    rw [← HN.out.1, made_told s.ss (by rw [HN.out.1]; exact hl)] at this
    exact this
  have HW : Hid (Rep B w2 b 1 s ∧ Fr (foot b s) w w2 ∧ w2.heap[w1.heap.size]? = some (.cells (tlC (told s.ss 0)).toArray 61 (0, 0))) := ⟨HF.out.2.1.kept0 ((Fr.refl _ _).grown hgrow2 (fun k h => by cases h)), HF.out.2.2.1.grown hgrow2 (fun k h => by cases h), hd⟩
  obtain ⟨gg, hgg⟩ : ∃ gg, w1.heap.size = gg := ⟨_, rfl⟩
  have hg0 : w.heap.size ≤ gg := by omega
  rw [hgg] at HW ⊢
  clear hown2 hgrow2 hd hz' c4 hgg
  go_loopw [24] (fun i wr => ∃ k : Nat, k ≤ n ∧ i = .int .i64 k ∧ Hid (Rep B wr b 1 s ∧ Fr (foot b s) w wr ∧ wr.heap[gg]? = some (.cells (tlC (told s.ss k)).toArray 61 (0, 0)))) (fun i _ => n - (intOf i).toNat)
  case atStart => exact ⟨0, Nat.zero_le _, rfl, HW⟩
  case round =>
    obtain ⟨k, hk, rfl, HK⟩ := hrel
    obtain ⟨W3, hW3⟩ : ∃ W3, W3 = wr := ⟨_, rfl⟩
    subst hW3
    clear HW c4'
    by_cases hlt : k < n
    · have hlt' : k < s.ss.length := by rw [HN.out.1]; exact hlt
      have ho := HK.out.1.ss
      rw [HN.out.2, HN.out.1] at ho
      obtain ⟨sg, hao, hcap, hc⟩ := own_addr ho (by omega)
      have hs := snC_get s.ss k hlt'
      obtain ⟨x, hx⟩ : ∃ x, s.ss[k] = x := ⟨_, rfl⟩
      rw [hx] at hs
      subst hao
      have d0 : W3.cell? ⟨sg, k * 4, none⟩ = some (.int .i64 x.guid) := by rw [hc _ (by omega)]; exact hs.1
      have d1 : W3.cell? ⟨sg, k * 4 + 1, none⟩ = some (.int .i64 x.time) := by rw [hc _ (by omega)]; exact hs.2.1
      have d2 : W3.cell? ⟨sg, k * 4 + 2, none⟩ = some (.int .i64 x.holds) := by rw [hc _ (by omega)]; exact hs.2.2.1
      have d3 : W3.cell? ⟨sg, k * 4 + 3, none⟩ = some (.int .i64 x.came) := by rw [hc _ (by omega)]; exact hs.2.2.2
      have hgl : gg < W3.heap.size := (Array.getElem?_eq_some_iff.1 HK.out.2.2).1
      have hll : (tlC (told s.ss k)).length = n * 3 := by rw [tlC_len, told_len _ _ (by omega), HN.out.1]
      have g0 : ∃ v, W3.cell? ⟨gg, k * 3, none⟩ = some v := by rw [cell_of HK.out.2.2, List.getElem?_toArray]; exact ⟨_, List.getElem?_eq_getElem (by omega)⟩
      have g1 : ∃ v, W3.cell? ⟨gg, k * 3 + 1, none⟩ = some v := by rw [cell_of HK.out.2.2, List.getElem?_toArray]; exact ⟨_, List.getElem?_eq_getElem (by omega)⟩
      have g2 : ∃ v, W3.cell? ⟨gg, k * 3 + 2, none⟩ = some v := by rw [cell_of HK.out.2.2, List.getElem?_toArray]; exact ⟨_, List.getElem?_eq_getElem (by omega)⟩
      obtain ⟨y0, g0⟩ := g0
      obtain ⟨y1, g1⟩ := g1
      obtain ⟨y2, g2⟩ := g2
      have z0 : W3.frozen? ⟨gg, k * 3, none⟩ = false := froz_of HK.out.2.2 _
      have z1 : W3.frozen? ⟨gg, k * 3 + 1, none⟩ = false := froz_of HK.out.2.2 _
      have z2 : W3.frozen? ⟨gg, k * 3 + 2, none⟩ = false := froz_of HK.out.2.2 _
      have hltz : (k : Int) < (n : Int) := by omega
      have HK8 : Hid (Rep B ((((W3.setCell ⟨gg, k * 3, none⟩ (.int .i64 x.guid)).setCell ⟨gg, k * 3 + 1, none⟩ (.int .i64 x.time)).setCell ⟨gg, k * 3 + 2, none⟩ (.int .i64 x.holds)).alloc (.cells #[.int .i64 x.guid, .int .i64 x.time, .int .i64 x.holds, .int .i64 x.came] 119)) b 1 s ∧ Fr (foot b s) w ((((W3.setCell ⟨gg, k * 3, none⟩ (.int .i64 x.guid)).setCell ⟨gg, k * 3 + 1, none⟩ (.int .i64 x.time)).setCell ⟨gg, k * 3 + 2, none⟩ (.int .i64 x.holds)).alloc (.cells #[.int .i64 x.guid, .int .i64 x.time, .int .i64 x.holds, .int .i64 x.came] 119)) ∧ ((((W3.setCell ⟨gg, k * 3, none⟩ (.int .i64 x.guid)).setCell ⟨gg, k * 3 + 1, none⟩ (.int .i64 x.time)).setCell ⟨gg, k * 3 + 2, none⟩ (.int .i64 x.holds)).alloc (.cells #[.int .i64 x.guid, .int .i64 x.time, .int .i64 x.holds, .int .i64 x.came] 119)).heap[gg]? = some (.cells (tlC (told s.ss (k + 1))).toArray 61 (0, 0))) := by
        refine ⟨?_, ?_, ?_⟩
        · refine Rep.kept0 (w := ((W3.setCell ⟨gg, k * 3, none⟩ (.int .i64 x.guid)).setCell ⟨gg, k * 3 + 1, none⟩ (.int .i64 x.time)).setCell ⟨gg, k * 3 + 2, none⟩ (.int .i64 x.holds)) (HK.out.1.of_foot (fun j hj => ?_)) ((Fr.refl _ _).alloc _)
          have hjg : j ≠ gg := by
            have := (HF.out.2.1.lt j hj).2
            rw [HF.out.2.2.2] at this
            omega
          rw [heap_setCell_other _ _ _ _ hjg, heap_setCell_other _ _ _ _ hjg, heap_setCell_other _ _ _ _ hjg]
        · exact (((HK.out.2.1.setCell _ (Or.inr hg0)).setCell _ (Or.inr hg0)).setCell _ (Or.inr hg0)).alloc _
        · rw [Below.heap_alloc _ _ _ (by simpa using hgl)]
          rw [heap_setCell_same _ gg (k * 3 + 2) _ _ _ (heap_setCell_same _ gg (k * 3 + 1) _ _ _ (heap_setCell_same _ gg (k * 3) _ _ _ HK.out.2.2))]
          rw [← told_set s.ss k hlt', hx, ← set3 _ k (t3 x) (by rw [told_len _ _ (by omega)]; exact hlt')]
          simp [t3]
      clear hc hs ho HK hx hll
      go_wp2
      go_roundw
      case rel => exact ⟨k + 1, by omega, by go_num, HK8⟩
      case measure => simp [intOf]; omega
    · have hkk : k = n := by omega
      subst hkk
      have HK9 : Hid (Rep B W3 b 1 s ∧ Fr (foot b s) w W3 ∧ W3.heap[gg]? = some (.cells (tlC (s.ss.map t3)).toArray 61 (0, 0))) := by
        have := HK.out
        rw [← told_end, HN.out.1]
        exact this
      clear HK
      go_wp2
      refine leaves_cons (f := 24) (args := #[.pointer (some ⟨b, 0, none⟩)]) (by simp) (by simp [go_sem]) ?_
      refine (unlock_deferred Tryz.muLib ⟨b, 0, none⟩ .returning _ HK9.out.1.cells.1 (HK9.out.1.frozen 0)).mono ?_
      rintro e u' w'' ⟨rfl, rfl, rfl⟩
      refine ⟨_, results_tmp rfl _ _ _, gg, rfl, hg0, ?_, HK9.out.1.lock 0, HK9.out.2.1.setCell _ (Or.inl (by simp [foot]))⟩
      rw [heap_setCell_other _ _ _ _ (fun e => ?_)]
      · exact HK9.out.2.2
      · have := (HF.out.2.1.lt b (by simp [foot])).2
        rw [HF.out.2.2.2] at this
        simp at e
        omega
end Go.Proofs.YthdhegmlknpllaaGreat
