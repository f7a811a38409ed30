import Derived.Test.YthdhegmlknpllaaGreatM07
import Derived.Test.YthdhegmlknpllaaGreatM09
import Derived.Test.YthdhegmlknpllaaGreatM04
namespace Go.Proofs.YthdhegmlknpllaaGreat
open Go.RowKit Go.Maps Go.MuLone
def flw (s : Sto) (g c : Int) (k : Nat) : List (Int × B4) := (List.range k).filterMap fun i : Nat => if c ≤ (s.th g (i : Int)).n then some ((i : Int), (s.th g (i : Int)).x) else none
theorem flw_yes {s : Sto} {g c : Int} {k : Nat} (h : c ≤ (s.th g (k : Int)).n) : flw s g c (k + 1) = flw s g c k ++ [((k : Int), (s.th g (k : Int)).x)] := by
 simp [flw, List.range_succ, h]
theorem flw_no {s : Sto} {g c : Int} {k : Nat} (h : ¬ c ≤ (s.th g (k : Int)).n) : flw s g c (k + 1) = flw s g c k := by
 simp [flw, List.range_succ, h]
theorem flw_len (s : Sto) (g c : Int) (k : Nat) : (flw s g c k).length ≤ k := by
 have := List.length_filterMap_le (fun i : Nat => if c ≤ (s.th g (i : Int)).n then some ((i : Int), (s.th g (i : Int)).x) else none) (List.range k)
 simpa [flw] using this
theorem info137 : (Tryz.prog.info? 137).map (fun i => (i.zero, i.size, i.bytes)) = some (some (.agg #[.int .i64 0, .int .u8 0, .int .u8 0, .int .u8 0, .int .u8 0]), 5, 16) := by kernel_rfl
structure SnJ (B b : Nat) (s : Sto) (w wr : World) (bx : Nat) (f t m nb : Int) (vf : Value) (l : List (Int × B4)) : Prop where
 rep : Rep B wr b 1 s
 fr : Fr (foot b s) w wr
 box : wr.heap[bx]? = some (.cells #[.int .i64 f, .int .i64 t, .int .i64 m, .int .i64 nb, vf] 135 (0, 0))
 row : wr.ownsRow bx 137 5 vf l.length (blC l)
 le : w.heap.size ≤ bx
theorem SnJ.alloc {B b : Nat} {s : Sto} {w wr : World} {bx : Nat} {f t m nb : Int} {vf : Value} {l : List (Int × B4)} (h : SnJ B b s w wr bx f t m nb vf l) (o : Obj) : SnJ B b s w (wr.alloc o) bx f t m nb vf l :=
 ⟨h.rep.kept0 ((Fr.refl _ _).alloc _), h.fr.alloc _, by rw [Below.heap_alloc _ _ _ (Array.getElem?_eq_some_iff.1 h.box).1]; exact h.box, h.row.alloc _, h.le⟩
theorem SnJ.push {B b : Nat} {s : Sto} {w wr w9 : World} {bx : Nat} {f t m nb : Int} {vf v9 : Value} {l : List (Int × B4)} {x : Int × B4} (h : SnJ B b s w wr bx f t m nb vf l) (ho : w9.ownsRow bx 137 5 v9 (l.length + 1) (blC l ++ bkC x)) (hg : wr.grownBy w9 vf.ownBlock) :
  SnJ B b s w (w9.setCell ⟨bx, 4, none⟩ v9) bx f t m nb v9 (l ++ [x]) ∧ w9.cell? ⟨bx, 4, none⟩ = some vf ∧ w9.frozen? ⟨bx, 4, none⟩ = false := by
 have hne : vf.ownBlock ≠ some bx := fun e => by
  obtain ⟨_, cur, h2⟩ := own_tag h.row e
  rw [h.box] at h2
  simp at h2
 have hlt := (Array.getElem?_eq_some_iff.1 h.box).1
 have hb9 : w9.heap[bx]? = some (.cells #[.int .i64 f, .int .i64 t, .int .i64 m, .int .i64 nb, vf] 135 (0, 0)) := by rw [hg.block bx hlt (Ne.symm hne)]; exact h.box
 have hne9 : ∀ k, v9.ownBlock = some k → k ≠ bx := fun k hk e => by
  obtain ⟨_, cur, h2⟩ := own_tag ho hk
  rw [e, hb9] at h2
  simp at h2
 have hwb : w.heap.size ≤ bx := h.le
 have f9 : Fr (foot b s) w w9 := h.fr.grown hg (fun k hk => Or.inr (Nat.le_trans hwb (h.row.lt k hk).1))
 have hnf : bx ∉ foot b s := fun hm => by
  have hh := h.box
  simp only [foot, List.mem_append, List.mem_cons, List.not_mem_nil, or_false, Option.mem_toList] at hm
  rcases hm with (((rfl | rfl | rfl) | h1) | h1) | h1
  · have := h.rep.blk; rw [hh] at this; simp [Sto.blk] at this
  · have := h.rep.vol; rw [hh] at this; simp at this
  · obtain ⟨es, c, h2⟩ := h.rep.th.at
    rw [hh] at h2; simp at h2
  · obtain ⟨_, cur, h2⟩ := own_tag h.rep.ss h1
    rw [hh] at h2; simp at h2
  · obtain ⟨_, cur, h2⟩ := own_tag h.rep.ms h1
    rw [hh] at h2; simp at h2
  · obtain ⟨_, cur, h2⟩ := own_tag h.rep.lg h1
    rw [hh] at h2; simp at h2
 have hvf : ∀ k, vf.ownBlock = some k → k ∉ foot b s := fun k hk hm => by
  obtain ⟨_, cur, hh⟩ := own_tag h.row hk
  simp only [foot, List.mem_append, List.mem_cons, List.not_mem_nil, or_false, Option.mem_toList] at hm
  rcases hm with (((rfl | rfl | rfl) | h1) | h1) | h1
  · have := h.rep.blk; rw [hh] at this; simp [Sto.blk] at this
  · have := h.rep.vol; rw [hh] at this; simp at this
  · obtain ⟨es, c, h2⟩ := h.rep.th.at
    rw [hh] at h2; simp at h2
  · obtain ⟨_, cur, h2⟩ := own_tag h.rep.ss h1
    rw [hh] at h2; simp at h2
  · obtain ⟨_, cur, h2⟩ := own_tag h.rep.ms h1
    rw [hh] at h2; simp at h2
  · obtain ⟨_, cur, h2⟩ := own_tag h.rep.lg h1
    rw [hh] at h2; simp at h2
 refine ⟨⟨?_, f9.setCell _ (Or.inr hwb), ?_, ?_, hwb⟩, ?_, froz_of hb9 _⟩
 · refine h.rep.of_foot (fun k hk => ?_)
   rw [heap_setCell_other _ _ _ _ (fun e => hnf (by have : k = bx := e; rw [← this]; exact hk))]
   exact hg.block k (h.rep.lt k hk).2 (fun e => hvf k e.symm hk)
 · rw [heap_setCell_same w9 bx 4 _ _ _ hb9]; rfl
 · have e : blC (l ++ [x]) = blC l ++ bkC x := by simp [blC]
   rw [e, List.length_append]
   exact own_of_block ho (fun k hk => heap_setCell_other _ _ _ _ (hne9 k hk))
 · rw [cell_of hb9]; rfl
set_option maxRecDepth 100000 in
set_option maxHeartbeats 3200000 in
theorem send_ok (B b : Nat) (s : Sto) (f t c : Int) (j : Nat) (x : Sn) (w : World) (h : Rep B w b 0 s) (hl : s.ss.length ≤ 12) (hv : s.vol.length ≤ 16) (ht : In64 t) (hf : fi (fun y : Sn => y.guid == t) 0 s.ss = (j : Int)) (hx : s.ss[j]? = some x)
  (hc : ∀ W, Rep B W b 1 s → Calls Tryz.prog 74 #[.pointer (some ⟨b, 0, none⟩), .int .i64 f] W fun e w' => e = .returned (.tuple #[.int .i64 c, .bool true]) ∧ Fr [] W w') (hcx : c < x.came) :
  Calls Tryz.prog 50 #[.pointer (some ⟨b, 0, none⟩), .int .i64 f, .int .i64 t] w fun e w' => e = .returned (.tuple #[.string (streamT f t x.time s.vol.length (flw s t c s.vol.length)), .int .i64 0]) ∧ Rep B w' b 0 s ∧ Fr (foot b s) w w' := by
 obtain ⟨i0, hi, hz0, hz1, hz2⟩ := info_parts info137
 obtain ⟨w1, hw1, R1⟩ := h.lk
 have hj : j < s.ss.length := (List.getElem?_eq_some_iff.1 hx).1
 have HL := lock_free Tryz.muLib ⟨b, 0, none⟩ w h.cells.1 (h.frozen 0)
 have F1 := lkF s hw1
 have HF : Hid (w.setCell ⟨b, 0, none⟩ (.int .i32 1) = w1 ∧ Rep B w1 b 1 s ∧ Fr (foot b s) w w1 ∧ s.ss[j]? = some x) := ⟨hw1, R1, F1, hx⟩
 have HS := findSnapshot_any B b 1 s t w1 R1 (by omega)
 rw [hf] at HS
 have HC : Hid (∀ W, Rep B W b 1 s → Calls Tryz.prog 74 #[.pointer (some ⟨b, 0, none⟩), .int .i64 f] W fun e w' => e = .returned (.tuple #[.int .i64 c, .bool true]) ∧ Fr [] W w') := hc
 obtain ⟨gg, cap, hsv, hcap, _, _, _⟩ := ss_at h hx
 obtain ⟨n, hn⟩ : ∃ n, s.ss.length = n := ⟨_, rfl⟩
 have HV : Hid (s.sv = .slice (some ⟨gg, 0, none⟩) n cap ∧ s.ss.length = n) := ⟨by rw [hsv, hn], hn⟩
 have hjn : (j : Int) < (n : Int) := by omega
 have j0 : ¬ ((j : Int) < 0) := by omega
 have HCell : Hid (∀ W, Rep B W b 1 s → W.cell? ⟨b, 4, none⟩ = some (.slice (some ⟨gg, 0, none⟩) n cap) ∧ W.cell? ⟨gg, j * 4 + 1, none⟩ = some (.int .i64 x.time) ∧ W.cell? ⟨gg, j * 4 + 3, none⟩ = some (.int .i64 x.came)) := fun W hW => by
  obtain ⟨g', c', e', _, _, h4, h5⟩ := ss_at hW hx
  rw [hsv] at e'
  have e2 : gg = g' := by simpa using (Value.slice.inj e').1
  refine ⟨by rw [← hn, ← hsv]; exact hW.cells.2.2.2.1, by rw [e2]; exact h4, by rw [e2]; exact h5⟩
 have t1 : ¬ (x.came ≤ c) := by omega
 obtain ⟨nv, hnv⟩ : ∃ nv, s.vol.length = nv := ⟨_, rfl⟩
 have HNV : Hid (s.vol.length = nv) := hnv
 obtain ⟨xt, hxt⟩ : ∃ xt, x.time = xt := ⟨_, rfl⟩
 obtain ⟨xc, hxc⟩ : ∃ xc, x.came = xc := ⟨_, rfl⟩
 rw [hxt, hxc] at HCell
 rw [hxc] at t1
 rw [hnv] at hv ⊢
 rw [hxt]
 rw [hn] at hcap
 clear h R1 F1 hw1 hf hx hc hsv hn hnv hxt hxc hcx
 go_enter_defers Tryz.func50, Tryz.ntmps50
 go_wp2_with (first
  | (go_at_call 23; refine HL.mono ?_; rintro e w' ⟨rfl, hw'⟩; rw [HF.out.1] at hw'; have hw' := hw'.symm; subst hw')
  | (go_at_call 65; refine HS.mono ?_; rintro e w2 ⟨rfl, hfr⟩; have HR2 : Hid (Rep B w2 b 1 s ∧ Fr (foot b s) w w2) := ⟨HF.out.2.1.kept0 hfr, HF.out.2.2.1.trans hfr (by simp)⟩; clear hfr)
  | (go_at_call 74; refine (HC.out _ HR2.out.1).mono ?_; rintro e w3 ⟨rfl, hfr⟩; have HR3 : Hid (Rep B w3 b 1 s ∧ Fr (foot b s) w w3) := ⟨HR2.out.1.kept0 hfr, HR2.out.2.trans hfr (by simp)⟩; have c4 := (HCell.out _ HR3.out.1).1; have d1 := (HCell.out _ HR3.out.1).2.1; have d3 := (HCell.out _ HR3.out.1).2.2; have c3 : w3.cell? ⟨b, 3, none⟩ = some (.slice (some ⟨s.vb, 0, none⟩) nv nv) := (by rw [← HNV.out]; exact HR3.out.1.cells.2.2.1); have lb : b < w3.heap.size := World.block_lt_of_cell? _ _ c3; have lgg : gg < w3.heap.size := World.block_lt_of_cell? _ _ d1; clear hfr))
 refine wp_region_noPanic ?_
 go_region
 refine NoPanic.normal ?_
 obtain ⟨bx, hbx⟩ : ∃ bx, w3.heap.size = bx := ⟨_, rfl⟩
 have HJ : Hid (SnJ B b s w (w3.alloc (.cells #[.int .i64 f, .int .i64 t, .int .i64 xt, .int .i64 nv, .slice none 0 0] 135)).drew bx f t xt nv (.slice none 0 0) []) := by
  refine ⟨HR3.out.1.kept0 ((Fr.refl _ _).alloc _).drew, (HR3.out.2.alloc _).drew, ?_, World.ownsRow_nil _ _ _ _, by rw [← hbx]; exact HR3.out.2.size⟩
  rw [← hbx]
  exact heap_alloc_new w3 _
 obtain ⟨W4, hW4⟩ : ∃ W4, (w3.alloc (.cells #[.int .i64 f, .int .i64 t, .int .i64 xt, .int .i64 nv, .slice none 0 0] 135)).drew = W4 := ⟨_, rfl⟩
 rw [hW4] at HJ
 rw [hW4, hbx]
 clear hW4 hbx c4 d1 d3 c3 lb lgg HC HS
 have c3 : W4.cell? ⟨b, 3, none⟩ = some (.slice (some ⟨s.vb, 0, none⟩) nv nv) := by rw [← HNV.out]; exact HJ.out.rep.cells.2.2.1
 go_wp2
 go_loopw [68] (fun i wr => ∃ (k : Nat) (vf : Value), k ≤ nv ∧ i = .int .i64 k ∧ Hid (SnJ B b s w wr bx f t xt nv vf (flw s t c k))) (fun i _ => nv - (intOf i).toNat)
 case atStart => exact ⟨0, _, Nat.zero_le _, rfl, HJ⟩
 case round =>
  obtain ⟨k, vf, hk, rfl, HK⟩ := hrel
  obtain ⟨W3, hW3⟩ : ∃ W3, W3 = wr := ⟨_, rfl⟩
  subst hW3
  clear HJ c3
  have hll := flw_len s t c k
  obtain ⟨L, hL⟩ : ∃ L, (flw s t c k).length = L := ⟨_, rfl⟩
  obtain ⟨fa, fc, hsh⟩ := own_shape HK.out.row
  rw [hL] at hsh hll
  subst hsh
  have HL3 : Hid ((flw s t c k).length = L) := hL
  clear hL
  by_cases hlt : k < nv
  · have hltz : (k : Int) < (nv : Int) := by omega
    have j5 : W3.cell? ⟨b, 5, none⟩ = some (.map (some s.mb)) := HK.out.rep.cells.2.2.2.2.1
    have lk0 := HK.out.rep.look ht (i := (k : Int)) ⟨by omega, by omega⟩
    obtain ⟨y, hy⟩ : ∃ y, s.th t (k : Int) = y := ⟨_, rfl⟩
    rw [hy] at lk0
    have lk : (Instr.lookup 64 (.map (some s.mb)) (.agg #[.int .i64 t, .int .i64 k]) false).run Tryz.prog W3 = .ok (.agg #[.int .u8 (y.x.a.toNat : Int), .int .u8 (y.x.b.toNat : Int), .int .u8 (y.x.c.toNat : Int), .int .u8 (y.x.d.toNat : Int), .int .i64 y.n]) W3 := lk0
    have HY : Hid (s.th t (k : Int) = y) := hy
    have x4 : W3.cell? ⟨bx, 4, none⟩ = some (.slice fa L fc) := by rw [cell_of HK.out.box]; rfl
    have lbx : bx < W3.heap.size := World.block_lt_of_cell? _ _ x4
    clear lk0 hy
    by_cases hcy : c ≤ y.n
    · have HNW : Hid (∀ j u, [Value.int .i64 (k : Int), .int .u8 (y.x.a.toNat : Int), .int .u8 (y.x.b.toNat : Int), .int .u8 (y.x.c.toNat : Int), .int .u8 (y.x.d.toNat : Int)][j]? = some u → ((W3.alloc (.cells #[.int .u8 (y.x.a.toNat : Int), .int .u8 (y.x.b.toNat : Int), .int .u8 (y.x.c.toNat : Int), .int .u8 (y.x.d.toNat : Int), .int .i64 y.n] 112)).alloc (.cells #[.int .i64 (k : Int), .int .u8 (y.x.a.toNat : Int), .int .u8 (y.x.b.toNat : Int), .int .u8 (y.x.c.toNat : Int), .int .u8 (y.x.d.toNat : Int)] 137)).cell? ((⟨W3.heap.size + 1, 0, none⟩ : Addr).add j) = some u) := by
        have := heap_alloc_new (W3.alloc (.cells #[.int .u8 (y.x.a.toNat : Int), .int .u8 (y.x.b.toNat : Int), .int .u8 (y.x.c.toNat : Int), .int .u8 (y.x.d.toNat : Int), .int .i64 y.n] 112)) (.cells #[.int .i64 (k : Int), .int .u8 (y.x.a.toNat : Int), .int .u8 (y.x.b.toNat : Int), .int .u8 (y.x.c.toNat : Int), .int .u8 (y.x.d.toNat : Int)] 137)
        rw [show (W3.alloc (.cells #[.int .u8 (y.x.a.toNat : Int), .int .u8 (y.x.b.toNat : Int), .int .u8 (y.x.c.toNat : Int), .int .u8 (y.x.d.toNat : Int), .int .i64 y.n] 112)).heap.size = W3.heap.size + 1 by simp] at this
        exact World.news_of_block (cs := #[.int .i64 (k : Int), .int .u8 (y.x.a.toNat : Int), .int .u8 (y.x.b.toNat : Int), .int .u8 (y.x.c.toNat : Int), .int .u8 (y.x.d.toNat : Int)]) (t := 137) (fr := (0, 0)) this
      have HRow : Hid (W3.ownsRow bx 137 5 (.slice fa L fc) L (blC (flw s t c k))) := by
       have := HK.out.row
       rw [HL3.out] at this
       exact this
      go_wp2_with (at_builtin; refine wpList_append_own _ rfl _ _ 133 rfl bx 137 i0 _ 5 16 Tryz.underlying133 hi hz0 hz1 hz2 rfl (by omega) (.slice fa L fc) L (blC (flw s t c k)) rfl ((HRow.out.alloc _).alloc _) ⟨W3.heap.size + 1, 0, none⟩ 1 1 [.int .i64 (k : Int), .int .u8 (y.x.a.toNat : Int), .int .u8 (y.x.b.toNat : Int), .int .u8 (y.x.c.toNat : Int), .int .u8 (y.x.d.toNat : Int)] rfl rfl HNW.out (by simp [Value.oneCell']) (by unfold maxLen; omega) (by omega) (by simp; omega) ?_; intro v9 w9 hown9 hgrow9 hne9; obtain ⟨a9, k9, hv9⟩ := own_shape hown9; subst hv9; have HP := ((HK.out.alloc (.cells #[.int .u8 (y.x.a.toNat : Int), .int .u8 (y.x.b.toNat : Int), .int .u8 (y.x.c.toNat : Int), .int .u8 (y.x.d.toNat : Int), .int .i64 y.n] 112)).alloc (.cells #[.int .i64 (k : Int), .int .u8 (y.x.a.toNat : Int), .int .u8 (y.x.b.toNat : Int), .int .u8 (y.x.c.toNat : Int), .int .u8 (y.x.d.toNat : Int)] 137)).push (x := ((k : Int), y.x)) (by rw [HL3.out]; exact hown9) hgrow9; have H9 : Hid (SnJ B b s w (w9.setCell ⟨bx, 4, none⟩ (.slice a9 (L + 1) k9)) bx f t xt nv (.slice a9 (L + 1) k9) (flw s t c k ++ [((k : Int), y.x)])) := HP.1; have x9 := HP.2.1; have z9 := HP.2.2; clear HP hown9 hgrow9 hne9)
      go_roundw
      case rel => exact ⟨k + 1, _, by omega, by go_num, by
       have e : flw s t c (k + 1) = flw s t c k ++ [((k : Int), y.x)] := by
        rw [flw_yes (by rw [HY.out]; exact hcy), HY.out]
       rw [e]
       exact H9⟩
      case measure => simp [intOf]; omega
    · have H9 : Hid (SnJ B b s w (W3.alloc (.cells #[.int .u8 (y.x.a.toNat : Int), .int .u8 (y.x.b.toNat : Int), .int .u8 (y.x.c.toNat : Int), .int .u8 (y.x.d.toNat : Int), .int .i64 y.n] 112)) bx f t xt nv (.slice fa L fc) (flw s t c (k + 1))) := by
        rw [flw_no (by rw [HY.out]; exact hcy)]
        exact HK.out.alloc _
      go_wp2
      go_roundw
      case rel => exact ⟨k + 1, _, by omega, by go_num, H9⟩
      case measure => simp [intOf]; omega
  · have hkk : k = nv := by omega
    subst hkk
    have HT : Hid (Calls Tryz.prog 75 #[.agg #[.int .i64 f, .int .i64 t, .int .i64 xt, .int .i64 k, .slice fa L fc]] W3 fun e w' => e = .returned (.string (streamT f t xt k (flw s t c k))) ∧ Fr [] W3 w') := text_any f t xt k (flw s t c k) (.slice fa L fc) bx W3 HK.out.row (by rw [HL3.out]; omega)
    have y0 : W3.cell? ⟨bx, 0, none⟩ = some (.int .i64 f) := by rw [cell_of HK.out.box]; rfl
    have y1 : W3.cell? ⟨bx, 1, none⟩ = some (.int .i64 t) := by rw [cell_of HK.out.box]; rfl
    have y2 : W3.cell? ⟨bx, 2, none⟩ = some (.int .i64 xt) := by rw [cell_of HK.out.box]; rfl
    have y3 : W3.cell? ⟨bx, 3, none⟩ = some (.int .i64 k) := by rw [cell_of HK.out.box]; rfl
    have y4 : W3.cell? ⟨bx, 4, none⟩ = some (.slice fa L fc) := by rw [cell_of HK.out.box]; rfl
    obtain ⟨st, hst⟩ : ∃ st, streamT f t xt k (flw s t c k) = st := ⟨_, rfl⟩
    rw [hst] at HT
    have HST : Hid (streamT f t xt k (flw s t c k) = st) := hst
    clear hst
    go_wp2_with (go_at_call 75; refine HT.out.mono ?_; rintro e w6 ⟨rfl, f6⟩; have HR6 : Hid (Rep B w6 b 1 s ∧ Fr (foot b s) w w6) := ⟨HK.out.rep.kept0 f6, HK.out.fr.trans f6 (by simp)⟩; clear f6)
    refine leaves_cons (f := 24) (args := #[.pointer (some ⟨b, 0, none⟩)]) (by simp) (by simp [go_sem]) ?_
    refine (unlock_deferred Tryz.muLib ⟨b, 0, none⟩ .returning _ HR6.out.1.cells.1 (HR6.out.1.frozen 0)).mono ?_
    rintro e u' w'' ⟨rfl, rfl, rfl⟩
    exact ⟨_, results_tmp2 rfl _ _ _, by rw [HST.out]; rfl, HR6.out.1.lock 0, HR6.out.2.setCell _ (Or.inl (by simp [foot]))⟩
set_option maxRecDepth 100000 in
set_option maxHeartbeats 1600000 in
theorem send_none (B b : Nat) (s : Sto) (f t : Int) (j : Nat) (w : World) (h : Rep B w b 0 s) (hl : s.ss.length ≤ 12) (hf : fi (fun y : Sn => y.guid == t) 0 s.ss = (j : Int))
  (hc : ∀ W, Rep B W b 1 s → Calls Tryz.prog 74 #[.pointer (some ⟨b, 0, none⟩), .int .i64 f] W fun e w' => e = .returned (.tuple #[.int .i64 0, .bool false]) ∧ Fr [] W w') :
  Calls Tryz.prog 50 #[.pointer (some ⟨b, 0, none⟩), .int .i64 f, .int .i64 t] w fun e w' => e = .returned (.tuple #[.string ⟨#[]⟩, .int .i64 3]) ∧ Rep B w' b 0 s ∧ Fr (foot b s) w w' := by
 obtain ⟨w1, hw1, R1⟩ := h.lk
 have HL := lock_free Tryz.muLib ⟨b, 0, none⟩ w h.cells.1 (h.frozen 0)
 have F1 := lkF s hw1
 have HF : Hid (w.setCell ⟨b, 0, none⟩ (.int .i32 1) = w1 ∧ Rep B w1 b 1 s ∧ Fr (foot b s) w w1) := ⟨hw1, R1, F1⟩
 have HS := findSnapshot_any B b 1 s t w1 R1 (by omega)
 rw [hf] at HS
 have HC : Hid (∀ W, Rep B W b 1 s → Calls Tryz.prog 74 #[.pointer (some ⟨b, 0, none⟩), .int .i64 f] W fun e w' => e = .returned (.tuple #[.int .i64 0, .bool false]) ∧ Fr [] W w') := hc
 have j0 : ¬ ((j : Int) < 0) := by omega
 clear h R1 F1 hw1 hf hc
 go_enter_defers Tryz.func50, Tryz.ntmps50
 go_wp2_with (first
  | (go_at_call 23; refine HL.mono ?_; rintro e w' ⟨rfl, hw'⟩; rw [HF.out.1] at hw'; have hw' := hw'.symm; subst hw')
  | (go_at_call 65; refine HS.mono ?_; rintro e w2 ⟨rfl, hfr⟩; have HR2 : Hid (Rep B w2 b 1 s ∧ Fr (foot b s) w w2) := ⟨HF.out.2.1.kept0 hfr, HF.out.2.2.trans hfr (by simp)⟩; clear hfr)
  | (go_at_call 74; refine (HC.out _ HR2.out.1).mono ?_; rintro e w3 ⟨rfl, hfr⟩; have HR3 : Hid (Rep B w3 b 1 s ∧ Fr (foot b s) w w3) := ⟨HR2.out.1.kept0 hfr, HR2.out.2.trans hfr (by simp)⟩; clear hfr))
 refine leaves_cons (f := 24) (args := #[.pointer (some ⟨b, 0, none⟩)]) (by simp) (by simp [go_sem]) ?_
 refine (unlock_deferred Tryz.muLib ⟨b, 0, none⟩ .returning _ HR3.out.1.cells.1 (HR3.out.1.frozen 0)).mono ?_
 rintro e u' w'' ⟨rfl, rfl, rfl⟩
 exact ⟨_, results_tmp2 rfl _ _ _, rfl, HR3.out.1.lock 0, HR3.out.2.setCell _ (Or.inl (by simp [foot]))⟩
set_option maxRecDepth 100000 in
set_option maxHeartbeats 1600000 in
theorem send_arg (B b : Nat) (s : Sto) (f t c : Int) (j : Nat) (x : Sn) (w : World) (h : Rep B w b 0 s) (hl : s.ss.length ≤ 12) (hf : fi (fun y : Sn => y.guid == t) 0 s.ss = (j : Int)) (hx : s.ss[j]? = some x)
  (hc : ∀ W, Rep B W b 1 s → Calls Tryz.prog 74 #[.pointer (some ⟨b, 0, none⟩), .int .i64 f] W fun e w' => e = .returned (.tuple #[.int .i64 c, .bool true]) ∧ Fr [] W w') (hcx : x.came ≤ c) :
  Calls Tryz.prog 50 #[.pointer (some ⟨b, 0, none⟩), .int .i64 f, .int .i64 t] w fun e w' => e = .returned (.tuple #[.string ⟨#[]⟩, .int .i64 1]) ∧ Rep B w' b 0 s ∧ Fr (foot b s) w w' := by
 obtain ⟨w1, hw1, R1⟩ := h.lk
 have hj : j < s.ss.length := (List.getElem?_eq_some_iff.1 hx).1
 have HL := lock_free Tryz.muLib ⟨b, 0, none⟩ w h.cells.1 (h.frozen 0)
 have F1 := lkF s hw1
 have HF : Hid (w.setCell ⟨b, 0, none⟩ (.int .i32 1) = w1 ∧ Rep B w1 b 1 s ∧ Fr (foot b s) w w1 ∧ s.ss[j]? = some x) := ⟨hw1, R1, F1, hx⟩
 have HS := findSnapshot_any B b 1 s t w1 R1 (by omega)
 rw [hf] at HS
 have HC : Hid (∀ W, Rep B W b 1 s → Calls Tryz.prog 74 #[.pointer (some ⟨b, 0, none⟩), .int .i64 f] W fun e w' => e = .returned (.tuple #[.int .i64 c, .bool true]) ∧ Fr [] W w') := hc
 obtain ⟨gg, cap, hsv, hcap, _, _, _⟩ := ss_at h hx
 obtain ⟨n, hn⟩ : ∃ n, s.ss.length = n := ⟨_, rfl⟩
 have hjn : (j : Int) < (n : Int) := by omega
 have j0 : ¬ ((j : Int) < 0) := by omega
 have HCell : Hid (∀ W, Rep B W b 1 s → W.cell? ⟨b, 4, none⟩ = some (.slice (some ⟨gg, 0, none⟩) n cap) ∧ W.cell? ⟨gg, j * 4 + 3, none⟩ = some (.int .i64 x.came)) := fun W hW => by
  obtain ⟨g', c', e', _, _, h4, h5⟩ := ss_at hW hx
  rw [hsv] at e'
  have e2 : gg = g' := by simpa using (Value.slice.inj e').1
  refine ⟨by rw [← hn, ← hsv]; exact hW.cells.2.2.2.1, by rw [e2]; exact h5⟩
 obtain ⟨xc, hxc⟩ : ∃ xc, x.came = xc := ⟨_, rfl⟩
 rw [hxc] at HCell hcx
 rw [hn] at hcap
 clear h R1 F1 hw1 hf hx hc hsv hn hxc
 go_enter_defers Tryz.func50, Tryz.ntmps50
 go_wp2_with (first
  | (go_at_call 23; refine HL.mono ?_; rintro e w' ⟨rfl, hw'⟩; rw [HF.out.1] at hw'; have hw' := hw'.symm; subst hw')
  | (go_at_call 65; refine HS.mono ?_; rintro e w2 ⟨rfl, hfr⟩; have HR2 : Hid (Rep B w2 b 1 s ∧ Fr (foot b s) w w2) := ⟨HF.out.2.1.kept0 hfr, HF.out.2.2.1.trans hfr (by simp)⟩; clear hfr)
  | (go_at_call 74; refine (HC.out _ HR2.out.1).mono ?_; rintro e w3 ⟨rfl, hfr⟩; have HR3 : Hid (Rep B w3 b 1 s ∧ Fr (foot b s) w w3) := ⟨HR2.out.1.kept0 hfr, HR2.out.2.trans hfr (by simp)⟩; have c4 := (HCell.out _ HR3.out.1).1; have d3 := (HCell.out _ HR3.out.1).2; clear hfr))
 refine leaves_cons (f := 24) (args := #[.pointer (some ⟨b, 0, none⟩)]) (by simp) (by simp [go_sem]) ?_
 refine (unlock_deferred Tryz.muLib ⟨b, 0, none⟩ .returning _ HR3.out.1.cells.1 (HR3.out.1.frozen 0)).mono ?_
 rintro e u' w'' ⟨rfl, rfl, rfl⟩
 exact ⟨_, results_tmp2 rfl _ _ _, rfl, HR3.out.1.lock 0, HR3.out.2.setCell _ (Or.inl (by simp [foot]))⟩
end Go.Proofs.YthdhegmlknpllaaGreat
