/-
  The walk of tetherkeep's takes (17): what was written, too.
-/
import Derived.Test.YthdhegmlknpllaaTak
namespace Go.Proofs.Ythdhegmlknpllaa
open Go.RowKit Go.Maps Go.MuLone

def wvol (c : Int) (v : List Ct) (ops : List (Nat × B4)) : List Ct := ops.foldl (fun v o => v.set o.1 ⟨o.2, c⟩) v
def wlog (ops : List (Nat × B4)) : List UInt8 := ops.flatMap fun o => entry 87 (wtext o.1 o.2)
/-- Blocks are written, one by one. -/
structure Wrote (n : Nat) (s : Sto) (ops : List (Nat × B4)) (s1 : Sto) : Prop where
  eq : ∃ lv, s1 = { s with vol := wvol s.came s.vol ops, log := s.log ++ wlog ops, lv := lv }
  lt : ∀ o ∈ ops, o.1 < n
theorem Wrote.nil (n : Nat) (s : Sto) : Wrote n s [] s := ⟨⟨s.lv, by simp [wvol, wlog]⟩, by simp⟩
theorem Wrote.snoc {n : Nat} {s s1 : Sto} {ops : List (Nat × B4)} (h : Wrote n s ops s1) {k : Nat} (hk : k < n) (x : B4) (lv : Value) : Wrote n s (ops ++ [(k, x)]) ((s1.write k x).noted 87 (wtext k x) lv) := by
  obtain ⟨l0, rfl⟩ := h.eq
  refine ⟨⟨lv, by simp [Sto.noted, Sto.write, wvol, wlog, List.foldl_append]⟩, fun o ho => ?_⟩
  rcases List.mem_append.1 ho with h1 | h1
  · exact h.lt o h1
  · simp at h1
    subst h1
    exact hk
theorem Wrote.th {n : Nat} {s s1 : Sto} {ops : List (Nat × B4)} (h : Wrote n s ops s1) : s1.th = s.th := by
  obtain ⟨l0, rfl⟩ := h.eq
  rfl

/-- What takes leaves behind its last store, and how it came to it. -/
def TakesAll (B b : Nat) (s : Sto) (id : Int) (n i : Nat) (t : Int) (w w' : World) (v : Value) : Prop :=
  ∃ ops s1 sv lv, Wrote n s ops s1 ∧ ops.length ≤ 20 ∧ Rep B w' b 0 ((s1.snap t sv).noted 83 (n4 t).ba lv) ∧ InvI ((s1.snap t sv).noted 83 (n4 t).ba lv) id n (i + 1) ∧ Fr (foot b s) w w' ∧ (∀ k ∈ foot b ((s1.snap t sv).noted 83 (n4 t).ba lv), k ∈ foot b s ∨ w.heap.size ≤ k) ∧
      w'.ownsRow w.heap.size 9 1 v n (strs s1.vol)

theorem takesall_end {B b : Nat} {s s1 : Sto} {id : Int} {n i k bx : Nat} {w W3 w4 w5 : World} {sv lv v : Value} {t : Int} (ht : 0 ≤ t ∧ t ≤ 1073741824) (hb : w.heap.size = bx) (hk : k ≤ 20) (hn : n ≤ 16)
    (h1 : Rep B W3 b 0 s1) (I : Inv s1 id n i (7 + 200 * i + 7 * k)) (f3 : Fr (foot b s) w W3) (hx : W3.heap[bx]? = some (.cells #[.int .i64 0, .int .i64 0, .slice none 0 0] 46 (0, 0))) (hth : ∃ ops, Wrote n s ops s1 ∧ ops.length ≤ k) (hft : ∀ k ∈ foot b s1, k ∈ foot b s ∨ w.heap.size ≤ k)
    (f4 : Fr (foot b s1) W3 w4) (a4 : ∀ k, sv.ownBlock = some k → s1.sv.ownBlock = some k ∨ W3.heap.size ≤ k) (l4 : ∀ k, lv.ownBlock = some k → s1.lv.ownBlock = some k ∨ W3.heap.size ≤ k)
    (o5 : w5.ownsRow w4.heap.size 9 1 v n (strs s1.vol)) (r4 : Rep B w4 b 0 ((s1.snap t sv).noted 83 (n4 t).ba lv)) (r5 : Rep B w5 b 0 ((s1.snap t sv).noted 83 (n4 t).ba lv)) (f5 : Fr (foot b ((s1.snap t sv).noted 83 (n4 t).ba lv)) w4 w5) :
    w5.heap[bx]? = some (.cells #[.int .i64 0, .int .i64 0, .slice none 0 0] 46 (0, 0)) ∧ ∀ x y z, TakesAll B b s id n i t w (((w5.setCell ⟨bx, 0, none⟩ x).setCell ⟨bx, 1, none⟩ y).setCell ⟨bx, 2, none⟩ z) v := by
  have hbw : bx < W3.heap.size := (Array.getElem?_eq_some_iff.1 hx).1
  have hsub3 : ∀ k ∈ foot b ((s1.snap t sv).noted 83 (n4 t).ba lv), k ∈ foot b s1 ∨ W3.heap.size ≤ k := snap_foot a4 l4
  have hsub : ∀ k ∈ foot b ((s1.snap t sv).noted 83 (n4 t).ba lv), k ∈ foot b s ∨ w.heap.size ≤ k := fun k hk => by
    rcases hsub3 k hk with h | h
    · exact hft k h
    · exact Or.inr (Nat.le_trans f3.size h)
  have h4 : w4.heap[bx]? = some (.cells #[.int .i64 0, .int .i64 0, .slice none 0 0] 46 (0, 0)) := by rw [f4.block bx hbw (h1.not46 hx)]; exact hx
  have hbn : bx ∉ foot b ((s1.snap t sv).noted 83 (n4 t).ba lv) := r4.not46 h4
  have h5 : w5.heap[bx]? = some (.cells #[.int .i64 0, .int .i64 0, .slice none 0 0] 46 (0, 0)) := by rw [f5.block bx (Array.getElem?_eq_some_iff.1 h4).1 hbn]; exact h4
  obtain ⟨ops, hW, hle0⟩ := hth
  refine ⟨h5, fun x y z => ⟨ops, s1, sv, lv, hW, by omega, ?_, I.snap hn (by omega) t ht sv lv, ?_, hsub, ?_⟩⟩
  · refine r5.of_foot (fun k hk => ?_)
    have hne : k ≠ bx := fun e => hbn (e ▸ hk)
    rw [heap_setCell_other _ _ _ _ hne, heap_setCell_other _ _ _ _ hne, heap_setCell_other _ _ _ _ hne]
  · have f5' : Fr (foot b s) w w5 := (f3.trans f4 hft).trans f5 hsub
    exact ((f5'.setCell _ (Or.inr (by simp [hb]))).setCell _ (Or.inr (by simp [hb]))).setCell _ (Or.inr (by simp [hb]))
  · have hle : w.heap.size ≤ w4.heap.size := Nat.le_trans f3.size f4.size
    have o6 : w5.ownsRow w.heap.size 9 1 v n (strs s1.vol) := by
      refine ⟨o5.1, ?_⟩
      rcases o5.2 with h0 | ⟨g, cap, cur, h1, h2, r⟩
      · exact .inl h0
      · exact .inr ⟨g, cap, cur, h1, Nat.le_trans hle h2, r⟩
    refine own_of_block o6 (fun k hk => ?_)
    have hne : k ≠ bx := fun e => by
      have := (o5.lt k hk).1
      have := Nat.lt_of_lt_of_le hbw f4.size
      omega
    rw [heap_setCell_other _ _ _ _ hne, heap_setCell_other _ _ _ _ hne, heap_setCell_other _ _ _ _ hne]

set_option maxRecDepth 100000 in
set_option maxHeartbeats 3200000 in
theorem takes_all (B b : Nat) (s : Sto) (id : Int) (n i : Nat) (ao : Option Addr) (zs : List Int) (cap : Nat) (w : World) (h : Rep B w b 0 s) (I : InvI s id n i) (hi : i < 12) (hid : 1 ≤ id ∧ id ≤ 999) (hn : 1 ≤ n ∧ n ≤ 16) (hr : RowB B w ao zs cap) (hz : Bnd zs) (t : Int) (ht : 0 ≤ t ∧ t ≤ 1073741824) :
    Calls Try.prog 20 #[.pointer (some ⟨b, 0, none⟩), .int .i64 n, .slice ao zs.length cap, .int .i64 t] w fun e w' => ∃ v, e = .returned (.tuple #[imgv (id * 1000000 + ((i : Int) + 1)) t v, .bool true]) ∧ TakesAll B b s id n i t w w' v := by
  obtain ⟨bx, hbx⟩ : ∃ bx, w.heap.size = bx := ⟨_, rfl⟩
  obtain ⟨w0, hw0⟩ : ∃ w0, w.alloc (.cells #[.int .i64 0, .int .i64 0, .slice none 0 0] 46) = w0 := ⟨_, rfl⟩
  have b0 : w0.heap[bx]? = some (.cells #[.int .i64 0, .int .i64 0, .slice none 0 0] 46 (0, 0)) := by rw [← hw0, ← hbx]; exact heap_alloc_new w _
  have hbf : bx ∉ foot b s := fun hm => by have := (h.lt bx hm).2; omega
  have HB : Hid (Rep B w b 0 s ∧ InvI s id n i ∧ RowB B w ao zs cap ∧ Bnd zs ∧ w.heap.size = bx ∧ bx ∉ foot b s ∧ (∀ k ∈ foot b s, B ≤ k)) := ⟨h, I, hr, hz, hbx, hbf, fun k hk => (h.lt k hk).1⟩
  have H0 : Hid (Rep B w0 b 0 s ∧ InvI s id n i ∧ Fr (foot b s) w w0 ∧ w0.heap[bx]? = some (.cells #[.int .i64 0, .int .i64 0, .slice none 0 0] 46 (0, 0))) := ⟨by rw [← hw0]; exact h.kept0 ((Fr.refl _ _).alloc _), I, by rw [← hw0]; exact (Fr.refl _ _).alloc _, b0⟩
  have hw0' : w.alloc (.cells #[.int .i64 0, .int .i64 0, .slice none 0 0] 46) = w0 := hw0
  have hcap := hr.1
  clear h I hr hz b0 hw0 hbf
  go_enter Try.func20, Try.ntmps20
  go_wp2
  go_loopw [10] (fun i' wr => ∃ (k : Nat) (s1 : Sto), k ≤ 20 ∧ k ≤ zs.length ∧ i' = .int .i64 k ∧ Hid (Rep B wr b 0 s1 ∧ Inv s1 id n i (7 + 200 * i + 7 * k) ∧ Fr (foot b s) w wr ∧ wr.heap[bx]? = some (.cells #[.int .i64 0, .int .i64 0, .slice none 0 0] 46 (0, 0)) ∧ (∃ ops, Wrote n s ops s1 ∧ ops.length ≤ k) ∧ (∀ k ∈ foot b s1, k ∈ foot b s ∨ w.heap.size ≤ k))) (fun i' _ => 20 - (intOf i').toNat)
  case atStart => exact ⟨0, s, Nat.zero_le _, Nat.zero_le _, rfl, H0.out.1, H0.out.2.1, H0.out.2.2.1, H0.out.2.2.2, ⟨[], Wrote.nil n s, Nat.le_refl _⟩, fun k hk => Or.inl hk⟩
  case round =>
    obtain ⟨k, s1, hk, hkl, rfl, HK⟩ := hrel
    obtain ⟨W3, hW3⟩ : ∃ W3, W3 = wr := ⟨_, rfl⟩
    subst hW3
    clear H0 hw0'
    have HSn : Hid (Calls Try.prog 24 #[.pointer (some ⟨b, 0, none⟩), .int .i64 t] W3 fun e w' => e = .returned (.tuple #[.int .i64 (id * 1000000 + ((i : Int) + 1)), .int .i64 0]) ∧ ∃ sv lv, Rep B w' b 0 ((s1.snap t sv).noted 83 (n4 t).ba lv) ∧ Fr (foot b s1) W3 w' ∧ (∀ k, sv.ownBlock = some k → s1.sv.ownBlock = some k ∨ W3.heap.size ≤ k) ∧ (∀ k, lv.ownBlock = some k → s1.lv.ownBlock = some k ∨ W3.heap.size ≤ k)) := by
      have I := HK.out.2.1
      have e : gu s1 (s1.taken + 1) = id * 1000000 + ((i : Int) + 1) := by unfold gu; rw [I.id, I.tk]
      have := snap_ok B b s1 t W3 HK.out.1 ht (by rw [I.id]; exact hid) (by rw [I.tk]; omega) I.free (by rw [I.ss]; exact hi) (by rw [I.ms]; simp) (by rw [I.cm]; omega) (by rw [I.vol]; exact hn.2) (by rw [I.vol]; have := I.cnt; unfold maxLen; omega) (by have := I.lg; omega)
      rw [e] at this
      exact this
    have hbw : bx < W3.heap.size := (Array.getElem?_eq_some_iff.1 HK.out.2.2.2.1).1
    by_cases hlt : k < zs.length
    · by_cases hlt2 : k < 20
      · have hltz : (k : Int) < (zs.length : Int) := by omega
        have hltz2 : (k : Int) < 20 := by omega
        obtain ⟨rb, off, hao, hrb, hc⟩ := (HB.out.2.2.1.fr HK.out.2.2.1 HB.out.2.2.2.2.2.2).2 (by omega)
        have d1 : W3.cell? ⟨rb, off + k, none⟩ = some (.int .i64 (tm zs k)) := hc k hlt
        have hx := HB.out.2.2.2.1 k hlt
        obtain ⟨x, hxx⟩ : ∃ x, tm zs k = x := ⟨_, rfl⟩
        rw [hxx] at d1 hx
        subst hao
        have hq := tdiv_ok hx hn.1
        have q1 : IntKind.i64.wrap (x.tdiv n) = x.tdiv n := wrap_fit hq
        have q2 : ¬ ((n : Int) = 0) := by omega
        have q3 : ¬ n = 0 := by omega
        have q4 : (n == 0) = false := by simpa using q3
        have HP : Hid (∀ W, Calls Try.prog 15 #[.int .i64 x, .int .i64 n] W fun e w' => e = .returned (.int .i64 (pk x n)) ∧ w' = W) := fun W => pick_any x n W hx (by omega) (by omega)
        have HD : Hid (∀ W, Calls Try.prog 45 #[.int .i64 (x.tdiv n)] W fun e w' => ∃ y : B4, e = .returned y.str ∧ Fr [] W w') := fun W => data_any (x.tdiv n) W hq
        have hp := pk_lt x n (by omega)
        obtain ⟨p, hpp⟩ : ∃ p : Nat, pk x n = p := ⟨(pk x n).toNat, by omega⟩
        rw [hpp] at HP hp
        have hpn : p < n := by omega
        have HW : Hid (∀ (W : World) (y : B4), Rep B W b 0 s1 → Calls Try.prog 22 #[.pointer (some ⟨b, 0, none⟩), .int .i64 p, y.str] W fun e w' => e = .returned (.int .i64 0) ∧ ∃ lv, Rep B w' b 0 ((s1.write p y).noted 87 (wtext p y) lv) ∧ Fr (foot b s1) W w' ∧ (∀ j, lv.ownBlock = some j → s1.lv.ownBlock = some j ∨ W.heap.size ≤ j)) := fun W y hW => write_ok B b s1 p y W hW (by rw [HK.out.2.1.vol]; exact hpn) (by have := HK.out.2.1.lg; omega)
        have lrb := World.block_lt_of_cell? _ _ d1
        have hrf : rb ∉ foot b s1 := fun hm => by
          have := (HK.out.1.lt rb hm).1
          omega
        clear hc hxx hpp hx hq
        go_wp2
        go_region_held3 (fun w' => w'.cell? ⟨rb, off + k, none⟩ = some (.int .i64 x))
          (first
            | go_keep
            | ((rw [World.cell?_of_block (f4.block rb lrb (by simp))]; assumption))
            | ((rw [World.cell?_of_block (f5.block rb (Nat.lt_of_lt_of_le lrb f4.size) hrf)]; assumption)))
          (first
            | (go_at_call 15; refine (HP.out _).mono ?_; rintro e w' ⟨rfl, rfl⟩)
            | (go_at_call 45; refine (HD.out _).mono ?_; rintro e w4 ⟨y, rfl, f4⟩)
            | (go_at_call 22; refine (HW.out _ y ((HK.out.1.kept0 (Fr.refl _ _).drew).kept0 f4)).mono ?_; rintro e w5 ⟨rfl, lv, r5, f5, a5⟩))
        all_goals
          have HK5 : Hid (Rep B w5 b 0 ((s1.write p y).noted 87 (wtext p y) lv) ∧ Inv ((s1.write p y).noted 87 (wtext p y) lv) id n i (7 + 200 * i + 7 * (k + 1)) ∧ Fr (foot b s) w w5 ∧ w5.heap[bx]? = some (.cells #[.int .i64 0, .int .i64 0, .slice none 0 0] 46 (0, 0)) ∧ (∃ ops, Wrote n s ops ((s1.write p y).noted 87 (wtext p y) lv) ∧ ops.length ≤ k + 1) ∧ (∀ k ∈ foot b ((s1.write p y).noted 87 (wtext p y) lv), k ∈ foot b s ∨ w.heap.size ≤ k)) := by
            have f4' := (Fr.refl [] W3).drew.trans f4 (by simp)
            have fa : Fr (foot b s1) W3 w5 := (f4'.mono (by simp)).trans f5 (fun j hj => Or.inl hj)
            have hsz : w.heap.size ≤ w4.heap.size := Nat.le_trans HK.out.2.2.1.size f4'.size
            obtain ⟨ops, hW, hle⟩ := HK.out.2.2.2.2.1
            refine ⟨r5, HK.out.2.1.write p y lv, HK.out.2.2.1.trans fa HK.out.2.2.2.2.2, ?_, ⟨ops ++ [(p, y)], hW.snoc hpn y lv, by simp; omega⟩, fun j hj => ?_⟩
            · rw [fa.block bx (Array.getElem?_eq_some_iff.1 HK.out.2.2.2.1).1 (HK.out.1.not46 HK.out.2.2.2.1)]
              exact HK.out.2.2.2.1
            · rcases write_foot a5 j hj with h | h
              · exact HK.out.2.2.2.2.2 j h
              · exact Or.inr (Nat.le_trans hsz h)
          clear r5 f5 f4 a5 HK HP HD HW
          go_wp2
          go_roundw
          case rel => exact ⟨k + 1, (s1.write p y).noted 87 (wtext p y) lv, by omega, by omega, by go_num, HK5⟩
          case measure => simp [intOf]; omega
      · go_wp2_with (first
          | (go_at_call 24; refine HSn.out.mono ?_; rintro e w4 ⟨rfl, sv, lv, r4, f4, a4, l4⟩
             have HR4 : Hid (Rep B w4 b 0 ((s1.snap t sv).noted 83 (n4 t).ba lv) ∧ Fr (foot b s1) W3 w4 ∧ (∀ k, sv.ownBlock = some k → s1.sv.ownBlock = some k ∨ W3.heap.size ≤ k) ∧ (∀ k, lv.ownBlock = some k → s1.lv.ownBlock = some k ∨ W3.heap.size ≤ k)) := ⟨r4, f4, a4, l4⟩
             have HV : Hid (Calls Try.prog 33 #[.pointer (some ⟨b, 0, none⟩), .int .i64 n] w4 fun e w' => ∃ v, e = .returned (.tuple #[v, .bool true]) ∧ w'.ownsRow w4.heap.size 9 1 v n (strs s1.vol) ∧ Rep B w' b 0 ((s1.snap t sv).noted 83 (n4 t).ba lv) ∧ Fr (foot b ((s1.snap t sv).noted 83 (n4 t).ba lv)) w4 w') := by
               have e : ((s1.snap t sv).noted 83 (n4 t).ba lv).vol.length = n := HK.out.2.1.vol
               have := volume_any B b ((s1.snap t sv).noted 83 (n4 t).ba lv) w4 r4 (by rw [e]; exact hn.2)
               rw [e] at this
               exact this
             clear r4 f4 a4 l4)
          | (go_at_call 33; refine HV.out.mono ?_; rintro e w5 ⟨v, rfl, o5, r5, f5⟩
             obtain ⟨a9, c9, hv9⟩ := own_shape o5
             subst hv9
             have HT := takesall_end ht HB.out.2.2.2.2.1 hk hn.2 HK.out.1 HK.out.2.1 HK.out.2.2.1 HK.out.2.2.2.1 HK.out.2.2.2.2.1 HK.out.2.2.2.2.2 HR4.out.2.1 HR4.out.2.2.1 HR4.out.2.2.2 o5 HR4.out.1 r5 f5
             have e0 : w5.cell? ⟨bx, 0, none⟩ = some (.int .i64 0) := by rw [cell_of HT.1]; rfl
             have e1 : w5.cell? ⟨bx, 1, none⟩ = some (.int .i64 0) := by rw [cell_of HT.1]; rfl
             have e2 : w5.cell? ⟨bx, 2, none⟩ = some (.slice none 0 0) := by rw [cell_of HT.1]; rfl
             have z0 := froz_of HT.1 0
             have z1 := froz_of HT.1 1
             have z2 := froz_of HT.1 2
             have HE : Hid (TakesAll B b s id n i t w (((w5.setCell ⟨bx, 0, none⟩ (.int .i64 (id * 1000000 + ((i : Int) + 1)))).setCell ⟨bx, 1, none⟩ (.int .i64 t)).setCell ⟨bx, 2, none⟩ (.slice a9 n c9)) (.slice a9 n c9)) := HT.2 _ _ _
             clear o5 r5 f5 HT HR4 HV))
        refine bodyPost_ret (v := .tuple #[imgv (id * 1000000 + ((i : Int) + 1)) t (.slice a9 n c9), .bool true]) ?_ rfl ⟨_, rfl, HE.out⟩
        rw [results_cell_tmp rfl]
        go_simp
        rfl
    · go_wp2_with (first
        | (go_at_call 24; refine HSn.out.mono ?_; rintro e w4 ⟨rfl, sv, lv, r4, f4, a4, l4⟩
           have HR4 : Hid (Rep B w4 b 0 ((s1.snap t sv).noted 83 (n4 t).ba lv) ∧ Fr (foot b s1) W3 w4 ∧ (∀ k, sv.ownBlock = some k → s1.sv.ownBlock = some k ∨ W3.heap.size ≤ k) ∧ (∀ k, lv.ownBlock = some k → s1.lv.ownBlock = some k ∨ W3.heap.size ≤ k)) := ⟨r4, f4, a4, l4⟩
           have HV : Hid (Calls Try.prog 33 #[.pointer (some ⟨b, 0, none⟩), .int .i64 n] w4 fun e w' => ∃ v, e = .returned (.tuple #[v, .bool true]) ∧ w'.ownsRow w4.heap.size 9 1 v n (strs s1.vol) ∧ Rep B w' b 0 ((s1.snap t sv).noted 83 (n4 t).ba lv) ∧ Fr (foot b ((s1.snap t sv).noted 83 (n4 t).ba lv)) w4 w') := by
             have e : ((s1.snap t sv).noted 83 (n4 t).ba lv).vol.length = n := HK.out.2.1.vol
             have := volume_any B b ((s1.snap t sv).noted 83 (n4 t).ba lv) w4 r4 (by rw [e]; exact hn.2)
             rw [e] at this
             exact this
           clear r4 f4 a4 l4)
        | (go_at_call 33; refine HV.out.mono ?_; rintro e w5 ⟨v, rfl, o5, r5, f5⟩
           obtain ⟨a9, c9, hv9⟩ := own_shape o5
           subst hv9
           have HT := takesall_end ht HB.out.2.2.2.2.1 hk hn.2 HK.out.1 HK.out.2.1 HK.out.2.2.1 HK.out.2.2.2.1 HK.out.2.2.2.2.1 HK.out.2.2.2.2.2 HR4.out.2.1 HR4.out.2.2.1 HR4.out.2.2.2 o5 HR4.out.1 r5 f5
           have e0 : w5.cell? ⟨bx, 0, none⟩ = some (.int .i64 0) := by rw [cell_of HT.1]; rfl
           have e1 : w5.cell? ⟨bx, 1, none⟩ = some (.int .i64 0) := by rw [cell_of HT.1]; rfl
           have e2 : w5.cell? ⟨bx, 2, none⟩ = some (.slice none 0 0) := by rw [cell_of HT.1]; rfl
           have z0 := froz_of HT.1 0
           have z1 := froz_of HT.1 1
           have z2 := froz_of HT.1 2
           have HE : Hid (TakesAll B b s id n i t w (((w5.setCell ⟨bx, 0, none⟩ (.int .i64 (id * 1000000 + ((i : Int) + 1)))).setCell ⟨bx, 1, none⟩ (.int .i64 t)).setCell ⟨bx, 2, none⟩ (.slice a9 n c9)) (.slice a9 n c9)) := HT.2 _ _ _
           clear o5 r5 f5 HT HR4 HV))
      refine bodyPost_ret (v := .tuple #[imgv (id * 1000000 + ((i : Int) + 1)) t (.slice a9 n c9), .bool true]) ?_ rfl ⟨_, rfl, HE.out⟩
      rw [results_cell_tmp rfl]
      go_simp
      rfl
end Go.Proofs.Ythdhegmlknpllaa
