import Derived.Test.YthdhegmlknpllaaGreatM17
import Derived.Deep.QuietTactic
import Derived.BigQuiet
import Derived.Test.YthdhegmlknpllaaGreatM23
import Derived.Deep.LoopGhost
namespace Go.Proofs.YthdhegmlknpllaaGreat
open Go.RowKit Go.Maps Go.MuLone
def RSh.sn (x : RSh) : Sn := ⟨x.guid, x.time, x.holds, x.came⟩
theorem fi_map {α β : Type} (f : α → β) (p : β → Bool) : ∀ (l : List α) (i : Nat), fi (fun x => p (f x)) i l = fi p i (l.map f)
 | [], _ => rfl
 | x :: r, i => by
  simp only [fi, List.map_cons]
  rw [fi_map f p r (i + 1)]
theorem rshC_app (a b : List RSh) : rshC (a ++ b) = rshC a ++ rshC b := by simp [rshC]
theorem rshC_len : ∀ (l : List RSh), (∀ x ∈ l, x.wf) → (rshC l).length = l.length * 36
 | [], _ => rfl
 | x :: r, h => by
  have e : rshC (x :: r) = x.cells ++ rshC r := by simp [rshC]
  rw [e, List.length_append, rsh_len (h x (by simp)), rshC_len r (fun y hy => h y (by simp [hy])), List.length_cons]
  omega
theorem rshC_take (l : List RSh) (h : ∀ x ∈ l, x.wf) (j : Nat) (hj : j ≤ l.length) (t : Nat) (ht : t < j * 36) : (rshC (l.take j))[t]? = (rshC l)[t]? := by
 have e : rshC l = rshC (l.take j) ++ rshC (l.drop j) := by rw [← rshC_app, List.take_append_drop]
 rw [e, List.getElem?_append_left (by rw [rshC_len _ (fun x hx => h x (List.mem_of_mem_take hx)), List.length_take, Nat.min_eq_left hj]; exact ht)]
theorem rshC_drop (l : List RSh) (h : ∀ x ∈ l, x.wf) (j : Nat) (hj : j ≤ l.length) (t : Nat) : (rshC (l.drop j))[t]? = (rshC l)[j * 36 + t]? := by
 have e : rshC l = rshC (l.take j) ++ rshC (l.drop j) := by rw [← rshC_app, List.take_append_drop]
 have hl : (rshC (l.take j)).length = j * 36 := by rw [rshC_len _ (fun x hx => h x (List.mem_of_mem_take hx)), List.length_take, Nat.min_eq_left hj]
 rw [e, List.getElem?_append_right (by omega), hl, Nat.add_sub_cancel_left]
theorem rsh_one {l : List RSh} : ∀ u ∈ rshC l, u.oneCell' = true := by
 intro u hu
 simp only [rshC, List.mem_flatMap] at hu
 obtain ⟨x, _, hx⟩ := hu
 simp only [RSh.cells, List.mem_append, List.mem_cons, List.not_mem_nil, or_false, datC, bornC, List.mem_map] at hx
 rcases hx with (rfl | rfl | rfl | rfl) | ⟨_, _, rfl⟩ | ⟨_, _, rfl⟩ <;> rfl
def RSto.setS (s : RSto) (sh : List RSh) (sv : Value) : RSto := { s with sh := sh, sv := sv }
theorem RRep.setS {B : Nat} {w : World} {b : Nat} {s : RSto} (h : RRep B w b s) {sh : List RSh} {sv : Value} (hw : ∀ x ∈ sh, x.wf) (ho : w.ownsRow B 117 36 sv sh.length (rshC sh)) : RRep B (w.setCell ⟨b, 36, none⟩ sv) b (s.setS sh sv) := by
 obtain ⟨a1, a2⟩ := h.apart
 have hmb : ∀ k, sv.ownBlock = some k → k ≠ b := fun k hk e => by
  obtain ⟨_, cur, h4⟩ := own_tag ho hk
  rw [e, h.blk] at h4
  simp at h4
 refine ⟨?_, h.d16, h.b16, hw, ?_, ?_, h.hb⟩
 · rw [heap_setCell_same w b 36 _ _ _ h.blk]
   have := cset_sv s h.d16 h.b16 sv
   rw [show (s.setS sh sv).cells = ({ s with sv := sv } : RSto).cells from rfl, ← this]
   simp
 · exact own_of_block ho (fun k hk => heap_setCell_other _ _ _ _ (hmb k hk))
 · exact own_of_block h.ms (fun k hk => heap_setCell_other _ _ _ _ (a2 k hk))
theorem erase_filterR : ∀ (l : List RSh) (g : Int) (j : Nat) (hj : j < l.length), (l.map RSh.guid).Nodup → (l[j].guid == g) = true → l.eraseIdx j = l.filter fun x => !(isG g x.sn)
 | [], _, _, h, _, _ => by simp at h
 | x :: r, g, 0, _, hu, hg => by
  simp only [List.getElem_cons_zero] at hg
  simp only [List.map_cons, List.nodup_cons] at hu
  have h1 : x.guid = g := by simpa using hg
  rw [List.eraseIdx_cons_zero, List.filter_cons_of_neg (by simp [isG, RSh.sn, h1]), List.filter_eq_self.2]
  intro y hy
  have : y.guid ≠ g := fun e => hu.1 (by rw [h1, ← e]; exact List.mem_map_of_mem hy)
  simp [isG, RSh.sn, this]
 | x :: r, g, j + 1, hj, hu, hg => by
  simp only [List.getElem_cons_succ] at hg
  simp only [List.map_cons, List.nodup_cons] at hu
  have hj' : j < r.length := by simpa using hj
  have h2 : r[j].guid = g := by simpa using hg
  have h1 : x.guid ≠ g := fun e => hu.1 (by rw [e, ← h2]; exact List.mem_map_of_mem (List.getElem_mem _))
  rw [List.eraseIdx_cons_succ, List.filter_cons_of_pos (by simp [isG, RSh.sn, h1]), erase_filterR r g j (by simpa using hj) hu.2 hg]
def rleft (sh : List RSh) (zs : List Int) : List RSh := sh.filter fun x => !(zs.any fun z => isG z x.sn)
theorem rleft_nil (sh : List RSh) : rleft sh [] = sh := by simp [rleft]
theorem rleft_succ (ss : List RSh) (zs : List Int) (k : Nat) (hk : k < zs.length) : rleft ss (zs.take (k + 1)) = (rleft ss (zs.take k)).filter fun x => !(isG (tm zs k) x.sn) := by
 unfold rleft
 rw [List.filter_filter]
 congr 1
 funext x
 have ht : tm zs k = zs[k] := by simp [tm, hk]
 rw [List.take_succ_eq_append_getElem hk, List.any_append, ht]
 cases (zs.take k).any (fun z => isG z x.sn) <;> simp
theorem rleft_map (sh : List RSh) (zs : List Int) : (rleft sh zs).map RSh.sn = left (sh.map RSh.sn) zs := by
 unfold rleft left
 rw [List.filter_map]
 rfl
def RdJ (B b : Nat) (s : RSto) (w wr : World) (zs : List Int) : Prop :=
 ∃ sv, RRep B wr b (s.setS (rleft s.sh zs) sv) ∧ Fr (rfoot b s) w wr ∧ (∀ k, sv.ownBlock = some k → s.sv.ownBlock = some k ∨ w.heap.size ≤ k)
theorem RdJ.step {B b j n k : Nat} {s : RSto} {w W w6 : World} {zs : List Int} {sk : RSto} {sv v6 : Value} (hk : k < zs.length) (hs : sk = s.setS (rleft s.sh (zs.take k)) sv) (r : RRep B W b sk) (f : Fr (rfoot b s) w W) (hu : (s.sh.map RSh.guid).Nodup) (hn : sk.sh.length = n) (hj : j < n) (hg : ((sk.sh[j]'(by omega)).guid == tm zs k) = true) (f6 : Fr [] W w6) (ho : w6.ownsRow W.heap.size 117 36 v6 (n - 1) (rshC (sk.sh.take j) ++ rshC (sk.sh.drop (j + 1)))) : RdJ B b s w (w6.setCell ⟨b, 36, none⟩ v6) (zs.take (k + 1)) := by
 have hBw : B ≤ W.heap.size := by have := r.hb; have := (r.lt b (by simp [rfoot])).2; omega
 have hnd : (sk.sh.map RSh.guid).Nodup := by
  rw [hs]
  exact List.Nodup.sublist (List.Sublist.map _ List.filter_sublist) hu
 have e1 := erase_filterR sk.sh (tm zs k) j (by omega) hnd hg
 have e2 : sk.sh.eraseIdx j = rleft s.sh (zs.take (k + 1)) := by rw [e1, rleft_succ _ _ _ hk, hs]; rfl
 rw [← rshC_app, ← List.eraseIdx_eq_take_drop_succ, e2] at ho
 have hl : (rleft s.sh (zs.take (k + 1))).length = n - 1 := by rw [← e2, List.length_eraseIdx_of_lt (by omega), hn]
 have hw : ∀ x ∈ rleft s.sh (zs.take (k + 1)), x.wf := fun x hx => r.wf x (by rw [← e2] at hx; exact (List.eraseIdx_sublist _ _).subset hx)
 have hff : Fr (rfoot b s) w w6 := f.trans f6 (by simp)
 refine ⟨v6, ?_, hff.setCell _ (Or.inl (by simp [rfoot])), fun k' hk' => Or.inr (Nat.le_trans f.size (own_tag ho hk').1)⟩
 have e3 : (s.setS (rleft s.sh (zs.take (k + 1))) v6) = sk.setS (rleft s.sh (zs.take (k + 1))) v6 := by rw [hs]; rfl
 rw [e3]
 refine (r.kept0 f6).setS hw ?_
 rw [hl]
 exact ⟨ho.1, ho.2.imp id fun ⟨g, cap, cur, e, hb, r⟩ => ⟨g, cap, cur, e, Nat.le_trans hBw hb, r⟩⟩
set_option maxRecDepth 100000 in
set_option maxHeartbeats 3200000 in
theorem rdestroy_any (B b : Nat) (s : RSto) (ao : Option Addr) (zs : List Int) (cap : Nat) (w : World) (h : RRep B w b s) (hl : s.sh.length ≤ 12) (hu : (s.sh.map RSh.guid).Nodup) (hr : RowG w ao zs cap) (hz : zs.length ≤ 2000000) (hnf : ∀ k off, ao = some ⟨k, off, none⟩ → 0 < zs.length → k ∉ rfoot b s) :
  Calls Tryz.prog 68 #[.pointer (some ⟨b, 0, none⟩), .slice ao zs.length cap] w fun e w' => Fr (rfoot b s) w w' ∧
   ((e = .returned (.int .i64 3) ∧ (∃ k, k < zs.length ∧ fineAt (s.sh.map RSh.sn) zs k = false) ∧ RRep B w' b s) ∨
    (e = .returned (.int .i64 4) ∧ (∀ k, k < zs.length → fineAt (s.sh.map RSh.sn) zs k = true) ∧ (∃ k, k < zs.length ∧ heldAt (s.sh.map RSh.sn) zs k = true) ∧ RRep B w' b s) ∨
    (e = .returned (.int .i64 0) ∧ (∀ k, k < zs.length → fineAt (s.sh.map RSh.sn) zs k = true) ∧ (∀ k, k < zs.length → heldAt (s.sh.map RSh.sn) zs k = false) ∧ RdJ B b s w w' zs)) := by
 obtain ⟨i0, hi⟩ : ∃ i0, Tryz.prog.info? 117 = some i0 := by
  cases hq : Tryz.prog.info? 117 with
  | none => have := info108; rw [hq] at this; cases this
  | some i => exact ⟨i, rfl⟩
 obtain ⟨hz1, hz2⟩ : i0.size = 36 ∧ i0.bytes = 416 := by have := info108; rw [hi] at this; simpa using this
 obtain ⟨z0, hz0, hzs⟩ : ∃ z, i0.zero = some z ∧ z.cells.size = 36 := by
  have := info108z
  rw [hi] at this
  simpa using this
 have HRow : Hid (∀ W, Fr (rfoot b s) w W → RowG W ao zs cap) := fun W hW => by
  refine ⟨hr.1, fun h0 => ?_⟩
  obtain ⟨rb, off, e, hc⟩ := hr.2 h0
  refine ⟨rb, off, e, fun i hi => ?_⟩
  exact (World.cell?_of_block (hW.block rb (World.block_lt_of_cell? _ _ (hc i hi)) (hnf rb off e h0))).trans (hc i hi)
 have HR : Hid (RRep B w b s ∧ s.sh.length ≤ 12 ∧ (s.sh.map RSh.guid).Nodup) := ⟨h, hl, hu⟩
 have hcap := hr.1
 clear h hl hu hr hnf
 go_enter Tryz.func68, Tryz.ntmps68
 go_wp2
 go_loopw [5] (fun i wr => ∃ k : Nat, k ≤ zs.length ∧ i = .int .i64 k ∧ Hid (Fr [] w wr ∧ ∀ j, j < k → fineAt (s.sh.map RSh.sn) zs j = true)) (fun i _ => zs.length - (intOf i).toNat)
 case atStart => exact ⟨0, Nat.zero_le _, rfl, Fr.refl _ _, fun j hj => by omega⟩
 case round =>
  obtain ⟨k, hk, rfl, HK⟩ := hrel
  obtain ⟨W3, hW3⟩ : ∃ W3, W3 = wr := ⟨_, rfl⟩
  subst hW3
  by_cases hlt : k < zs.length
  · obtain ⟨rb, off, hao, hc⟩ := (HRow.out W3 (HK.out.1.mono (by simp))).2 (by omega)
    subst hao
    have d1 := hc k hlt
    obtain ⟨g, hg⟩ : ∃ g, tm zs k = g := ⟨_, rfl⟩
    have HGg : Hid (tm zs k = g) := hg
    rw [hg] at d1
    have hltz : (k : Int) < (zs.length : Int) := by omega
    have k0 : (0 : Int) ≤ (k : Int) := by omega
    have hS : Hid (∀ W, Fr [] W3 W → Calls Tryz.prog 66 #[.pointer (some ⟨b, 0, none⟩), .int .i64 g] W fun e w' => e = .returned (.int .i64 (fi (fun x : RSh => x.guid == g) 0 s.sh)) ∧ w' = W) := fun W hW => rshot_any B b s g W ((HR.out.1.kept0 HK.out.1).kept0 hW) (by have := HR.out.2.1; omega)
    clear hc hg
    by_cases hfd : ∃ x ∈ s.sh, (x.guid == g) = true
    · obtain ⟨j, hj, e0, hgj⟩ := fi_some s.sh 0 hfd
      rw [e0, Nat.zero_add] at hS
      have HIn : Hid ((s.sh.map RSh.sn).any (isG g) = true) := by
       obtain ⟨x, hx, e⟩ := hfd
       exact List.any_eq_true.2 ⟨x.sn, List.mem_map_of_mem hx, e⟩
      have j0 : ¬ ((j : Int) < 0) := by omega
      have HKf : Hid (∀ j, j < k → fineAt (s.sh.map RSh.sn) zs j = true) := HK.out.2
      have HK1 : Hid (∀ W, Fr [] W3 W → Fr [] w W) := fun W hW => HK.out.1.trans hW (by simp)
      clear e0 hgj hj hfd
      go_wp2_with (first
       | (go_at_call 66; refine (hS.out _ Fr.dd).mono ?_; rintro e w' ⟨rfl, hw'⟩; have hw'' := hw'.symm; subst hw''))
      clear d1
      go_loopw [6] (fun i wr => ∃ t : Nat, t ≤ k ∧ i = .int .i64 t ∧ Hid (Fr [] w wr ∧ ∀ u, u < t → tm zs u ≠ g)) (fun i _ => k - (intOf i).toNat)
      case atStart => exact ⟨0, Nat.zero_le _, rfl, HK1.out _ Fr.dd, fun u hu => by omega⟩
      case round =>
       obtain ⟨t, ht, rfl, HT⟩ := hrel
       obtain ⟨W4, hW4⟩ : ∃ W4, W4 = wr := ⟨_, rfl⟩
       subst hW4
       by_cases hlt2 : t < k
       · have hltz2 : (t : Int) < (k : Int) := by omega
         have t0 : (0 : Int) ≤ (t : Int) := by omega
         have tz : (t : Int) < (zs.length : Int) := by omega
         obtain ⟨rb', off', hao', hc⟩ := (HRow.out W4 (HT.out.1.mono (by simp))).2 (by omega)
         simp only [Option.some.injEq, Addr.mk.injEq, and_true] at hao'
         obtain ⟨rfl, rfl⟩ := hao'
         have d1 := hc k hlt
         rw [HGg.out] at d1
         have d2 := hc t (by omega)
         obtain ⟨y, hy⟩ : ∃ y, tm zs t = y := ⟨_, rfl⟩
         rw [hy] at d2
         have HY : Hid (tm zs t = y) := hy
         clear hc hy
         by_cases he : y = g
         · have he1 : (y == g) = true := by simpa using he
           have HBad : Hid (fineAt (s.sh.map RSh.sn) zs k = false) := by
            show _ = false
            unfold fineAt
            have : ((zs.take k).any fun x => tm zs k == x) = true := List.any_eq_true.2 ⟨zs[t], List.mem_take_iff_getElem.2 ⟨t, by omega, rfl⟩, by rw [HGg.out, ← tm_get zs t (by omega), HY.out, he]; simp⟩
            rw [this]
            simp
           go_wp2
           go_quiet (fail)
           go_wp2
           go_ret
           exact ⟨((HT.out.1.drewN _).mono (by simp)), Or.inl ⟨rfl, ⟨k, hlt, HBad.out⟩, HR.out.1.kept0 (HT.out.1.drewN _)⟩⟩
         · have he1 : (y == g) = false := by simpa using he
           have HNe : Hid (tm zs t ≠ g) := by rw [HY.out]; exact he
           go_wp2
           go_quiet (fail)
           go_wp2
           go_roundw
           case rel => exact ⟨t + 1, by omega, by go_num, HT.out.1.drewN _, fun u hu => by
            by_cases e : u < t
            · exact HT.out.2 u e
            · have e2 : u = t := by omega
              rw [e2]; exact HNe.out⟩
           case measure => simp [intOf]; omega
       · have htt : t = k := by omega
         subst htt
         have HFi : Hid (fineAt (s.sh.map RSh.sn) zs t = true) := by
          show _ = true
          unfold fineAt
          rw [HGg.out, HIn.out]
          have : ((zs.take t).any fun x => g == x) = false := List.any_eq_false.2 (fun x hx => by
           obtain ⟨u, hu, rfl⟩ := List.mem_take_iff_getElem.1 hx
           have h8 := HT.out.2 u (by omega)
           rw [tm_get zs u (by omega)] at h8
           simpa using fun e => h8 e.symm)
          rw [this]
          rfl
         go_wp2
         go_roundw
         case rel => exact ⟨t + 1, by omega, by go_num, HT.out.1, fun u hu => by
          by_cases e : u < t
          · exact HKf.out u e
          · have e2 : u = t := by omega
            rw [e2]; exact HFi.out⟩
         case measure => simp [intOf]; omega
    · rw [fi_none s.sh 0 (fun x hx => by cases hp : (x.guid == g); rfl; exact absurd ⟨x, hx, hp⟩ hfd)] at hS
      have HBad : Hid (fineAt (s.sh.map RSh.sn) zs k = false) := by
       show _ = false
       unfold fineAt
       rw [HGg.out]
       have : (s.sh.map RSh.sn).any (isG g) = false := by
        rw [List.any_eq_false]
        intro x hx hp
        obtain ⟨y, hy, rfl⟩ := List.mem_map.1 hx
        exact hfd ⟨y, hy, hp⟩
       rw [this]
       rfl
      clear hfd
      go_wp2_with (first
       | (go_at_call 66; refine (hS.out _ Fr.dd).mono ?_; rintro e w' ⟨rfl, hw'⟩; have hw'' := hw'.symm; subst hw''))
      go_ret
      exact ⟨HK.out.1.mono (by simp), Or.inl ⟨rfl, ⟨k, hlt, HBad.out⟩, HR.out.1.kept0 HK.out.1⟩⟩
  · have hkk : k = zs.length := by omega
    subst hkk
    have HFine : Hid (∀ j, j < zs.length → fineAt (s.sh.map RSh.sn) zs j = true) := HK.out.2
    have HK1 : Hid (Fr [] w W3) := HK.out.1
    clear HK
    go_wp2
    go_loopw [7] (fun i wr => ∃ k : Nat, k ≤ zs.length ∧ i = .int .i64 k ∧ Hid (Fr [] w wr ∧ ∀ j, j < k → heldAt (s.sh.map RSh.sn) zs j = false)) (fun i _ => zs.length - (intOf i).toNat)
    case atStart => exact ⟨0, Nat.zero_le _, rfl, HK1.out, fun j hj => by omega⟩
    case round =>
     obtain ⟨k, hk, rfl, HK⟩ := hrel
     obtain ⟨W5, hW5⟩ : ∃ W5, W5 = wr := ⟨_, rfl⟩
     subst hW5
     clear HK1
     by_cases hlt : k < zs.length
     · obtain ⟨rb, off, hao, hc⟩ := (HRow.out W5 (HK.out.1.mono (by simp))).2 (by omega)
       subst hao
       have d1 := hc k hlt
       obtain ⟨g, hg⟩ : ∃ g, tm zs k = g := ⟨_, rfl⟩
       have HGg : Hid (tm zs k = g) := hg
       rw [hg] at d1
       have hltz : (k : Int) < (zs.length : Int) := by omega
       have k0 : (0 : Int) ≤ (k : Int) := by omega
       have R5 := HR.out.1.kept0 HK.out.1
       have hfd : ∃ x ∈ s.sh, (x.guid == g) = true := by
        have h8 := HFine.out k hlt
        unfold fineAt at h8
        rw [Bool.and_eq_true] at h8
        obtain ⟨y, hy, e⟩ := List.any_eq_true.1 h8.1
        obtain ⟨x, hx, rfl⟩ := List.mem_map.1 hy
        rw [hg] at e
        exact ⟨x, hx, e⟩
       obtain ⟨j, hj, e0, hgj⟩ := fi_some s.sh 0 hfd
       have hS : Hid (∀ W, Fr [] W5 W → Calls Tryz.prog 66 #[.pointer (some ⟨b, 0, none⟩), .int .i64 g] W fun e w' => e = .returned (.int .i64 (j : Int)) ∧ w' = W) := fun W hW => by
        have h8 := rshot_any B b s g W (R5.kept0 hW) (by have := HR.out.2.1; omega)
        rw [e0, Nat.zero_add] at h8
        exact h8
       obtain ⟨sao, scap, hsv⟩ := own_shape R5.sh
       have hso := R5.sh
       rw [hsv] at hso
       obtain ⟨gg, hgg, hscap, _⟩ := own_addr hso (by omega)
       subst hgg
       obtain ⟨hd, hhd⟩ : ∃ hd, s.sh[j].holds = hd := ⟨_, rfl⟩
       have d3 : W5.cell? ⟨gg, j * 36 + 2, none⟩ = some (.int .i64 hd) := by
        rw [R5.shotC hsv j hj 2 (by omega), ← hhd]
        rfl
       obtain ⟨n, hn⟩ : ∃ n, s.sh.length = n := ⟨_, rfl⟩
       have d2 : W5.cell? ⟨b, 36, none⟩ = some (.slice (some ⟨gg, 0, none⟩) n scap) := by rw [← hn, ← hsv]; exact R5.cells.2.2.2.2.1
       have hHd : heldAt (s.sh.map RSh.sn) zs k = decide (hd > 0) := by
        unfold heldAt
        have h8 := uniq_held (ss := s.sh.map RSh.sn) (by rw [List.map_map]; exact HR.out.2.2) (g := g) (j := j) (by simpa using hj) (by simpa [isG, RSh.sn] using hgj) (fun x => decide (x.holds > 0))
        rw [hg, h8]
        simp [RSh.sn, hhd]
       have HHd : Hid (heldAt (s.sh.map RSh.sn) zs k = decide (hd > 0)) := hHd
       have hjn : (j : Int) < (n : Int) := by omega
       have hjn' : j < n := by omega
       have j0 : (0 : Int) ≤ (j : Int) := by omega
       rw [hn] at hscap
       clear hc hg hfd e0 hgj hj hsv hso hhd hn R5 hHd
       by_cases hp : 0 < hd
       · have hp1 : decide (hd > 0) = true := by simpa using hp
         go_wp2
         first
          | go_region_with (first
              | (go_at_call 66; refine (hS.out _ Fr.dd).mono ?_; rintro e w' ⟨rfl, hw'⟩; have hw'' := hw'.symm; subst hw''))
          | fail
         all_goals
          go_wp2
          go_ret
          exact ⟨(Fr.mono (F := []) (by first | exact HK.out.1 | exact HK.out.1.drew | exact HK.out.1.drewN _) (by simp)), Or.inr (Or.inl ⟨rfl, HFine.out, ⟨k, hlt, by rw [HHd.out]; simpa using hp⟩, HR.out.1.kept0 (by first | exact HK.out.1 | exact HK.out.1.drew | exact HK.out.1.drewN _)⟩)⟩
       · have hp1 : decide (hd > 0) = false := by simpa using hp
         go_wp2
         first
          | go_region_with (first
              | (go_at_call 66; refine (hS.out _ Fr.dd).mono ?_; rintro e w' ⟨rfl, hw'⟩; have hw'' := hw'.symm; subst hw''))
          | fail
         all_goals
          go_wp2
          go_roundw
          case rel => exact ⟨k + 1, by omega, by go_num, by first | exact HK.out.1 | exact HK.out.1.drew | exact HK.out.1.drewN _, fun u hu => by
           by_cases e : u < k
           · exact HK.out.2 u e
           · have e2 : u = k := by omega
             rw [e2, HHd.out]; simpa using hp⟩
          case measure => simp [intOf]; omega
     · have hkk : k = zs.length := by omega
       subst hkk
       have HNone : Hid (∀ j, j < zs.length → heldAt (s.sh.map RSh.sn) zs j = false) := HK.out.2
       have HJ0 : Hid (RdJ B b s w W5 (zs.take 0)) := ⟨s.sv, by
        have h8 := HR.out.1.kept0 HK.out.1
        rw [List.take_zero, rleft_nil]
        exact h8, HK.out.1.mono (by simp), fun k hk => Or.inl hk⟩
       clear HK
       go_wp2
       go_loopw [8] (fun i wr => ∃ m : Nat, m ≤ zs.length ∧ i = .int .i64 m ∧ Hid (RdJ B b s w wr (zs.take m))) (fun i _ => zs.length - (intOf i).toNat)
       case atStart => exact ⟨0, Nat.zero_le _, rfl, HJ0⟩
       case round =>
        obtain ⟨m, hm, rfl, HM⟩ := hrel
        obtain ⟨W6, hW6⟩ : ∃ W6, W6 = wr := ⟨_, rfl⟩
        subst hW6
        clear HJ0
        by_cases hlm : m < zs.length
        · obtain ⟨sv, r6, f6, o6⟩ := HM.out
          obtain ⟨rb, off, hao, hc⟩ := (HRow.out W6 f6).2 (by omega)
          subst hao
          have d1 := hc m hlm
          obtain ⟨g, hg⟩ : ∃ g, tm zs m = g := ⟨_, rfl⟩
          rw [hg] at d1
          have hltz : (m : Int) < (zs.length : Int) := by omega
          have m0 : (0 : Int) ≤ (m : Int) := by omega
          obtain ⟨sk, hsk⟩ : ∃ sk, s.setS (rleft s.sh (zs.take m)) sv = sk := ⟨_, rfl⟩
          rw [hsk] at r6
          have hskl : sk.sh = rleft s.sh (zs.take m) := by rw [← hsk]; rfl
          have hex : ∃ x ∈ sk.sh, (x.guid == g) = true := by
           obtain ⟨y, hy, e⟩ := left_has (HFine.out m hlm)
           rw [← rleft_map, ← hskl] at hy
           obtain ⟨x, hx, rfl⟩ := List.mem_map.1 hy
           rw [hg] at e
           exact ⟨x, hx, e⟩
          have hl12 : sk.sh.length ≤ 12 := by rw [hskl]; exact Nat.le_trans (List.length_filter_le _ _) HR.out.2.1
          obtain ⟨j, hj, ej, hgj⟩ := fi_some sk.sh 0 hex
          rw [Nat.zero_add] at ej
          have hS : Hid (∀ W, Fr [] W6 W → Calls Tryz.prog 66 #[.pointer (some ⟨b, 0, none⟩), .int .i64 g] W fun e w' => e = .returned (.int .i64 (j : Int)) ∧ w' = W) := fun W hW => by
           have h8 := rshot_any B b sk g W (r6.kept0 hW) (by omega)
           rw [ej] at h8
           exact h8
          obtain ⟨sao, scap, hsv⟩ := own_shape r6.sh
          have hso := r6.sh
          rw [hsv] at hso
          obtain ⟨gg, hgg, hscap, hcc⟩ := own_addr hso (by omega)
          subst hgg
          obtain ⟨n, hn⟩ : ∃ n, sk.sh.length = n := ⟨_, rfl⟩
          have hjn' : j < n := by omega
          have c36 : W6.cell? ⟨b, 36, none⟩ = some (.slice (some ⟨gg, 0, none⟩) n scap) := by rw [← hn, ← hsv]; exact r6.cells.2.2.2.2.1
          have HSk : Hid (RRep B W6 b sk ∧ sk.sh.length = n ∧ (∀ t, t < n * 36 → W6.cell? ⟨gg, t, none⟩ = (rshC sk.sh)[t]?) ∧ sk = s.setS (rleft s.sh (zs.take m)) sv ∧ Fr (rfoot b s) w W6 ∧ tm zs m = g ∧ ((sk.sh[j]'hj).guid == tm zs m) = true) := ⟨r6, hn, by rw [← hn]; exact hcc, hsk.symm, f6, hg, by rw [hg]; exact hgj⟩
          have q1 : IntKind.i64.wrap ((j : Int) + 1) = (j : Int) + 1 := wrap_fit ⟨by omega, by omega⟩
          have j0 : ¬ ((j : Int) < 0) := by omega
          rw [hn] at hscap hl12
          have i1 : (j : Int) ≤ (n : Int) := by omega
          have i2 : (j : Int) ≤ (scap : Int) := by omega
          have i3 : (j : Int) + 1 ≤ (n : Int) := by omega
          have i4 : (j : Int) + 1 ≤ (scap : Int) := by omega
          have i5 : (n : Int) ≤ (scap : Int) := by omega
          have i6 : ((j : Int) + 1).toNat = j + 1 := by omega
          have HJ : Hid (j < sk.sh.length) := hj
          clear hc hg hsk hskl hex ej hgj hsv hso hcc hn r6 f6 o6
          by_cases hkc : scap = j + 1
          · have hnj : n = j + 1 := by omega
            subst hkc hnj
            go_wp2_with (first
             | (go_at_call 66; refine (hS.out _ Fr.dd).mono ?_; rintro e w' ⟨rfl, hw'⟩; have hw'' := hw'.symm; subst hw'')
             | (at_builtin; refine wpList_append_own _ rfl _ _ 83 rfl W6.heap.size 117 i0 _ 36 416 Tryz.underlying83 hi hz0 hz1 hz2 hzs (by omega) (.slice none 0 0) 0 [] rfl (World.ownsRow_nil _ _ _ _) ⟨gg, 0, none⟩ j (j + 1) (rshC (sk.sh.take j)) rfl (by rw [rshC_len _ (fun x hx => HSk.out.1.wf x (List.mem_of_mem_take hx)), List.length_take, HSk.out.2.1, Nat.min_eq_left (by omega)]) (fun t u hu => by
                  rw [Addr.add_lit, Nat.zero_add]
                  have ht : t < j * 36 := by
                   have := (List.getElem?_eq_some_iff.1 hu).1
                   rw [rshC_len _ (fun x hx => HSk.out.1.wf x (List.mem_of_mem_take hx)), List.length_take, HSk.out.2.1, Nat.min_eq_left (by omega)] at this
                   exact this
                  rw [rshC_take _ HSk.out.1.wf j (by rw [HSk.out.2.1]; omega) t ht] at hu
                  rw [HSk.out.2.2.1 t (by omega)]
                  exact hu) rsh_one (by unfold maxLen; omega) (by omega) (Nat.le_refl _) ?_; intro v5 w5 hown5 hgrow5 _
                rw [Nat.zero_add, List.nil_append] at hown5
                have H5 : Hid (w5.ownsRow W6.heap.size 117 36 v5 j (rshC (sk.sh.take j)) ∧ Fr [] W6 w5) := ⟨hown5, (Fr.refl _ _).grown hgrow5 (fun x hx => by simp [Value.ownBlock] at hx)⟩
                have c36' : w5.cell? ⟨b, 36, none⟩ = some (.slice (some ⟨gg, 0, none⟩) (j + 1) (j + 1)) := H5.out.2.gb.cell c36 (by simp)
                obtain ⟨ao5, c5, e5⟩ := own_shape H5.out.1
                subst e5
                clear hown5 hgrow5)
             | (at_builtin; refine wpList_append_own _ rfl _ _ 83 rfl W6.heap.size 117 i0 _ 36 416 Tryz.underlying83 hi hz0 hz1 hz2 hzs (by omega) (.slice ao5 j c5) j _ rfl H5.out.1 ⟨gg, 0, none⟩ 0 0 [] rfl rfl (by simp) (by simp) (by unfold maxLen; omega) (by omega) (Nat.le_trans (Nat.le_refl _) H5.out.2.size) ?_; intro v6 w6 hown6 hgrow6 _
                rw [Nat.add_zero, List.append_nil] at hown6
                have hd : rshC (sk.sh.drop (j + 1)) = [] := by rw [List.drop_of_length_le (by rw [HSk.out.2.1]; omega)]; rfl
                have H6 : Hid (w6.ownsRow W6.heap.size 117 36 v6 (j + 1 - 1) (rshC (sk.sh.take j) ++ rshC (sk.sh.drop (j + 1))) ∧ Fr [] W6 w6) := ⟨by rw [hd, List.append_nil]; exact hown6, H5.out.2.grown hgrow6 (fun k hk => Or.inr (own_tag H5.out.1 hk).1)⟩
                have c366 : w6.cell? ⟨b, 36, none⟩ = some (.slice (some ⟨gg, 0, none⟩) (j + 1) (j + 1)) := H6.out.2.gb.cell c36 (by simp)
                have fz : w6.frozen? ⟨b, 36, none⟩ = false := (HSk.out.1.kept0 H6.out.2).frozen 36
                obtain ⟨ao6, c6, e6⟩ := own_shape H6.out.1
                subst e6
                clear hown6 hgrow6))
            go_roundw
            case rel => exact ⟨m + 1, by omega, by go_num, RdJ.step hlm HSk.out.2.2.2.1 HSk.out.1 HSk.out.2.2.2.2.1 HR.out.2.2 HSk.out.2.1 (by omega) HSk.out.2.2.2.2.2.2 H6.out.2 H6.out.1⟩
            case measure => simp [intOf]; omega
          · go_wp2_with (first
              | (go_at_call 66; refine (hS.out _ Fr.dd).mono ?_; rintro e w' ⟨rfl, hw'⟩; have hw'' := hw'.symm; subst hw'')
              | (at_builtin; refine wpList_append_own _ rfl _ _ 83 rfl W6.heap.size 117 i0 _ 36 416 Tryz.underlying83 hi hz0 hz1 hz2 hzs (by omega) (.slice none 0 0) 0 [] rfl (World.ownsRow_nil _ _ _ _) ⟨gg, 0, none⟩ j scap (rshC (sk.sh.take j)) rfl (by rw [rshC_len _ (fun x hx => HSk.out.1.wf x (List.mem_of_mem_take hx)), List.length_take, HSk.out.2.1, Nat.min_eq_left (by omega)]) (fun t u hu => by
                   rw [Addr.add_lit, Nat.zero_add]
                   have ht : t < j * 36 := by
                    have := (List.getElem?_eq_some_iff.1 hu).1
                    rw [rshC_len _ (fun x hx => HSk.out.1.wf x (List.mem_of_mem_take hx)), List.length_take, HSk.out.2.1, Nat.min_eq_left (by omega)] at this
                    exact this
                   rw [rshC_take _ HSk.out.1.wf j (by rw [HSk.out.2.1]; omega) t ht] at hu
                   rw [HSk.out.2.2.1 t (by omega)]
                   exact hu) rsh_one (by unfold maxLen; omega) (by omega) (Nat.le_refl _) ?_; intro v5 w5 hown5 hgrow5 _
                 rw [Nat.zero_add, List.nil_append] at hown5
                 have H5 : Hid (w5.ownsRow W6.heap.size 117 36 v5 j (rshC (sk.sh.take j)) ∧ Fr [] W6 w5) := ⟨hown5, (Fr.refl _ _).grown hgrow5 (fun x hx => by simp [Value.ownBlock] at hx)⟩
                 have c36' : w5.cell? ⟨b, 36, none⟩ = some (.slice (some ⟨gg, 0, none⟩) n scap) := H5.out.2.gb.cell c36 (by simp)
                 obtain ⟨ao5, c5, e5⟩ := own_shape H5.out.1
                 subst e5
                 clear hown5 hgrow5)
              | (at_builtin; refine wpList_append_own _ rfl _ _ 83 rfl W6.heap.size 117 i0 _ 36 416 Tryz.underlying83 hi hz0 hz1 hz2 hzs (by omega) (.slice ao5 j c5) j _ rfl H5.out.1 ⟨gg, (j + 1) * 36, none⟩ (n - (j + 1)) (scap - (j + 1)) (rshC (sk.sh.drop (j + 1))) rfl (by rw [rshC_len _ (fun x hx => HSk.out.1.wf x (List.mem_of_mem_drop hx)), List.length_drop, HSk.out.2.1]) (fun t u hu => by
                   rw [Addr.add_lit]
                   have ht : t < (n - (j + 1)) * 36 := by
                    have := (List.getElem?_eq_some_iff.1 hu).1
                    rw [rshC_len _ (fun x hx => HSk.out.1.wf x (List.mem_of_mem_drop hx)), List.length_drop, HSk.out.2.1] at this
                    exact this
                   rw [rshC_drop _ HSk.out.1.wf (j + 1) (by rw [HSk.out.2.1]; omega), ← HSk.out.2.2.1 _ (by omega)] at hu
                   exact H5.out.2.gb.cell hu (by simp)) rsh_one (by unfold maxLen; omega) (by omega) (Nat.le_trans (Nat.le_refl _) H5.out.2.size) ?_; intro v6 w6 hown6 hgrow6 _
                 rw [show j + (n - (j + 1)) = n - 1 by omega] at hown6
                 have H6 : Hid (w6.ownsRow W6.heap.size 117 36 v6 (n - 1) (rshC (sk.sh.take j) ++ rshC (sk.sh.drop (j + 1))) ∧ Fr [] W6 w6) := ⟨hown6, H5.out.2.grown hgrow6 (fun k hk => Or.inr (own_tag H5.out.1 hk).1)⟩
                 have c366 : w6.cell? ⟨b, 36, none⟩ = some (.slice (some ⟨gg, 0, none⟩) n scap) := H6.out.2.gb.cell c36 (by simp)
                 have fz : w6.frozen? ⟨b, 36, none⟩ = false := (HSk.out.1.kept0 H6.out.2).frozen 36
                 obtain ⟨ao6, c6, e6⟩ := own_shape H6.out.1
                 subst e6
                 clear hown6 hgrow6))
            go_roundw
            case rel => exact ⟨m + 1, by omega, by go_num, RdJ.step hlm HSk.out.2.2.2.1 HSk.out.1 HSk.out.2.2.2.2.1 HR.out.2.2 HSk.out.2.1 (by omega) HSk.out.2.2.2.2.2.2 H6.out.2 H6.out.1⟩
            case measure => simp [intOf]; omega
        · have hmm : m = zs.length := by omega
          subst hmm
          have HF : Hid (RdJ B b s w W6 zs) := by have h8 := HM.out; rw [List.take_length] at h8; exact h8
          go_wp2
          go_ret
          exact ⟨by obtain ⟨_, _, f, _⟩ := HF.out; exact f, Or.inr (Or.inr ⟨rfl, HFine.out, HNone.out, HF.out⟩)⟩
def RG : ByteArray → List Int → Prop
 | t, [] => t.size = 0
 | t, z :: zs => 0 < t.size ∧ z = ((valN (rdT t 4).data.toList : Nat) : Int) ∧ RG (rdL t 4) zs
theorem RG.nil {t : ByteArray} (h : t.size = 0) : RG t [] := h
theorem RG.cons {t : ByteArray} {zs : List Int} (h : 0 < t.size) (hr : RG (rdL t 4) zs) : RG t (((valN (rdT t 4).data.toList : Nat) : Int) :: zs) := ⟨h, rfl, hr⟩
theorem rdL_lt (t : ByteArray) (h : 0 < t.size) : (rdL t 4).size < t.size := by
 unfold rdL
 split
 · exact h
 · rw [ByteArray.size_extract]; omega
theorem num4_lt (t : ByteArray) : valN (rdT t 4).data.toList < 4294967296 := by
 have h := valN_lt (rdT t 4).data.toList (rdT t 4).data.toList.length (Nat.le_refl _)
 rw [List.take_length] at h
 have h2 := rdT_size t 4
 have h3 : (rdT t 4).data.toList.length = (rdT t 4).size := by simp
 have h4 : 256 ^ (rdT t 4).data.toList.length ≤ 256 ^ 4 := Nat.pow_le_pow_right (by omega) (by omega)
 omega
theorem RG.fit : ∀ {t : ByteArray} {zs : List Int}, RG t zs → (∀ z ∈ zs, 0 ≤ z ∧ z < 4294967296) ∧ zs.length ≤ t.size
 | _, [], _ => ⟨fun z hz => absurd hz (by simp), Nat.zero_le _⟩
 | t, a :: zs, ⟨h, e, hr⟩ => by
  have ih := RG.fit hr
  refine ⟨fun z hz => ?_, ?_⟩
  · rcases List.mem_cons.1 hz with rfl | hz
    · have := num4_lt t
      omega
    · exact ih.1 z hz
  · have := rdL_lt _ h
    simp only [List.length_cons]
    omega
set_option maxRecDepth 100000 in
set_option maxHeartbeats 1600000 in
theorem readGuids_any (rb : Nat) (t : ByteArray) (sh : Bool) (w : World) (h : Rdr w rb t sh) (ht : t.size ≤ 1000) :
  Calls Tryz.prog 90 #[.pointer (some ⟨rb, 0, none⟩)] w fun e w' => ∃ a c zs, e = .returned (.slice a zs.length c) ∧ w'.ownsRow w.heap.size 3 1 (.slice a zs.length c) zs.length (i1C zs) ∧ RG t zs ∧ Fr [rb] w w' := by
 obtain ⟨i0, hi, hz0, hz1, hz2⟩ := info_parts info3
 have hrb : rb < w.heap.size := (Array.getElem?_eq_some_iff.1 h).1
 have HL : Hid (∀ W t' sh', Rdr W rb t' sh' → Calls Tryz.prog 89 #[.pointer (some ⟨rb, 0, none⟩)] W fun e w' => e = .returned (.int .i64 (t'.size : Nat)) ∧ w' = W) := fun W t' sh' h => left_any rb _ _ W h
 have HN : Hid (∀ W t' sh', t'.size ≤ 1000 → Rdr W rb t' sh' → Calls Tryz.prog 86 #[.pointer (some ⟨rb, 0, none⟩)] W fun e w' => e = .returned (.int .i64 (valN (rdT t' 4).data.toList : Nat)) ∧ Rdr w' rb (rdL t' 4) (rdS t' sh' 4) ∧ Fr [rb] W w') := fun W t' sh' hs h => rnumber_any rb t' sh' W h (by omega)
 have H0 : Hid (Rdr w rb t sh ∧ rb < w.heap.size) := ⟨h, hrb⟩
 clear h hrb
 go_enter Tryz.func90, Tryz.ntmps90
 go_wp2
 go_loopg [3] t.size (fun g vg wr => ∃ (zs : List Int) (t' : ByteArray) (sh' : Bool), g = t'.size ∧ t'.size ≤ t.size ∧ Hid (Fr [rb] w wr ∧ Rdr wr rb t' sh' ∧ wr.ownsRow w.heap.size 3 1 vg zs.length (i1C zs) ∧ zs.length + t'.size ≤ 1000 ∧ ∀ zs', RG t' zs' → RG t (zs ++ zs')))
 case atStart => exact ⟨[], t, sh, rfl, Nat.le_refl _, Fr.refl _ _, H0.out.1, World.ownsRow_nil _ _ _ _, by simpa using ht, fun zs' h => h⟩
 case round =>
  obtain ⟨zs, t', sh', rfl, hle, HK⟩ := hrel
  obtain ⟨W3, hW3⟩ : ∃ W3, W3 = wr := ⟨_, rfl⟩
  subst hW3
  obtain ⟨va, vc, hsh⟩ := own_shape HK.out.2.2.1
  subst hsh
  obtain ⟨n, hn⟩ : ∃ n : Nat, t'.size = n := ⟨_, rfl⟩
  have HLL : Hid (Calls Tryz.prog 89 #[.pointer (some ⟨rb, 0, none⟩)] W3 fun e w' => e = .returned (.int .i64 (n : Nat)) ∧ w' = W3) := by rw [← hn]; exact HL.out W3 t' sh' HK.out.2.1
  obtain ⟨k, hk⟩ : ∃ k, zs.length = k := ⟨_, rfl⟩
  have hkn : k + n ≤ 1000 := by have := HK.out.2.2.2.1; omega
  by_cases h0 : 0 < n
  · have HNN : Hid (∀ g : Int, ((valN (rdT t' 4).data.toList : Nat) : Int) = g → Calls Tryz.prog 86 #[.pointer (some ⟨rb, 0, none⟩)] W3 fun e w' => e = .returned (.int .i64 g) ∧ Rdr w' rb (rdL t' 4) (rdS t' sh' 4) ∧ Fr [rb] W3 w') := fun g hg => by rw [← hg]; exact HN.out W3 t' sh' (by omega) HK.out.2.1
    obtain ⟨g, hg⟩ : ∃ g : Int, ((valN (rdT t' 4).data.toList : Nat) : Int) = g := ⟨_, rfl⟩
    have HNG : Hid (Calls Tryz.prog 86 #[.pointer (some ⟨rb, 0, none⟩)] W3 fun e w' => e = .returned (.int .i64 g) ∧ Rdr w' rb (rdL t' 4) (rdS t' sh' 4) ∧ Fr [rb] W3 w') := HNN.out g hg
    have HG : Hid (((valN (rdT t' 4).data.toList : Nat) : Int) = g ∧ zs.length = k ∧ t'.size = n) := ⟨hg, hk, hn⟩
    have HKO : Hid (W3.ownsRow w.heap.size 3 1 (.slice va k vc) k (i1C zs)) := by have := HK.out.2.2.1; rw [hk] at this; exact this
    rw [hk]
    have h0z : (0 : Int) < (n : Int) := by omega
    clear hg hk hn HNN HN HL
    go_wp2_with (first
     | (go_at_call 89; refine HLL.out.mono ?_; rintro e w' ⟨rfl, hw'⟩; have hw' := hw'.symm; subst hw')
     | (go_at_call 86; refine HNG.out.mono ?_; rintro e w4 ⟨rfl, r4, f4⟩
        have hs4 : w.heap.size ≤ w4.heap.size := Nat.le_trans HK.out.1.size f4.size
        have H4 : Hid (Rdr w4 rb (rdL t' 4) (rdS t' sh' 4) ∧ Fr [rb] w w4 ∧ w4.ownsRow w.heap.size 3 1 (.slice va k vc) k (i1C zs)) := ⟨r4, HK.out.1.trans f4 (fun k hk => Or.inl hk), own_of_block HKO.out (fun j hj => f4.block j (HKO.out.lt j hj).2 (fun hm => by simp at hm; subst hm; have h1 := (HKO.out.lt _ hj).1; have h2 := H0.out.2; omega))⟩
        clear r4 f4)
     | (at_builtin; refine wpList_append_own _ rfl _ _ 39 rfl w.heap.size 3 i0 _ 1 8 Tryz.underlying39 hi hz0 hz1 hz2 rfl (by omega) (.slice va k vc) k (i1C zs) rfl (H4.out.2.2.alloc _) ⟨w4.heap.size, 0, none⟩ 1 1 [.int .i64 g] rfl (by simp) (World.news_of_block (cs := #[.int .i64 g]) (t := 3) (fr := (0, 0)) (heap_alloc_new w4 _)) (by simp [Value.oneCell']) (by unfold maxLen; omega) (by omega) (by simp; omega) ?_; intro v9 w9 hown9 hgrow9 hne9
        have H9 : Hid (Fr [rb] w w9 ∧ Rdr w9 rb (rdL t' 4) (rdS t' sh' 4) ∧ w9.ownsRow w.heap.size 3 1 v9 (k + 1) (i1C (zs ++ [g]))) := ⟨(H4.out.2.1.alloc _).grown hgrow9 (fun x hx => Or.inr (H4.out.2.2.lt x hx).1), (by
         have h8 := hgrow9.block rb (by simp; have := H0.out.2; omega) (fun e => by have h1 := (H4.out.2.2.lt rb e.symm).1; have h2 := H0.out.2; omega)
         unfold Rdr
         rw [h8, Below.heap_alloc w4 _ rb (by have := H0.out.2; omega)]
         exact H4.out.1), (by simp only [i1C, List.map_append, List.map_cons, List.map_nil]; exact hown9)⟩
        clear hown9 hgrow9 hne9))
    go_roundg ((rdL t' 4).size)
    case measure => have := rdL_lt t' (by rw [HG.out.2.2]; exact h0); omega
    case rel =>
     have h5 := rdL_lt t' (by rw [HG.out.2.2]; exact h0)
     refine ⟨zs ++ [g], rdL t' 4, rdS t' sh' 4, rfl, by omega, H9.out.1, H9.out.2.1, by rw [List.length_append, HG.out.2.1]; exact H9.out.2.2, ?_, fun zs' hz => ?_⟩
     · rw [List.length_append, List.length_singleton, HG.out.2.1]
       have := HG.out.2.2
       omega
     · rw [List.append_assoc]
       refine HK.out.2.2.2.2 _ ?_
       have := RG.cons (t := t') (by rw [HG.out.2.2]; exact h0) hz
       rw [HG.out.1] at this
       exact this
  · have hn0 : n = 0 := by omega
    subst hn0
    have HE : Hid (zs.length = k ∧ t'.size = 0) := ⟨hk, hn⟩
    clear hk hn
    go_wp2_with (first
     | (go_at_call 89; refine HLL.out.mono ?_; rintro e w' ⟨rfl, hw'⟩; have hw' := hw'.symm; subst hw'))
    go_ret
    refine ⟨va, vc, zs, rfl, HK.out.2.2.1, ?_, HK.out.1⟩
    have := HK.out.2.2.2.2 [] (RG.nil HE.out.2)
    rwa [List.append_nil] at this
set_option maxRecDepth 100000 in
set_option maxHeartbeats 1600000 in
theorem redo_D (b : Nat) (t0 : ByteArray) (hT : t0.size ≤ 300) (hk : eK t0 = 68) (w : World) (Q : World → Prop)
  (HC : ∀ W, Fr [] w W → ∀ a c zs, W.ownsRow w.heap.size 3 1 (.slice a zs.length c) zs.length (i1C zs) → RG (eT2 t0) zs → Calls Tryz.prog 67 #[.pointer (some ⟨b, 0, none⟩), .slice a zs.length c] W fun e w' => (∃ c, e = .returned (.int .i64 c)) ∧ Q w') :
  Calls Tryz.prog 57 #[.pointer (some ⟨b, 0, none⟩), .string t0] w fun e w' => e = .returned (.tuple #[]) ∧ Q w' := by
 have hle := eT_le t0
 have HN : Hid (∀ W, Calls Tryz.prog 84 #[.string t0] W fun e w' => e = .returned (.pointer (some ⟨W.heap.size, 0, none⟩)) ∧ Rdr w' W.heap.size t0 false ∧ Fr [] W w') := fun W => newReader_any _ W
 have H1 : Hid (∀ W rb sh, Rdr W rb t0 sh → Calls Tryz.prog 85 #[.pointer (some ⟨rb, 0, none⟩)] W fun e w' => e = .returned (.int .i64 (valN (rdT t0 1).data.toList : Nat)) ∧ (∃ sh', Rdr w' rb (eT1 t0) sh') ∧ Fr [rb] W w') := fun W rb sh h => (rbyte_any rb t0 sh W h (by omega)).mono fun e w' hp => ⟨hp.1, ⟨_, hp.2.1⟩, hp.2.2⟩
 have H2 : Hid (∀ W rb sh, Rdr W rb (eT1 t0) sh → Calls Tryz.prog 85 #[.pointer (some ⟨rb, 0, none⟩)] W fun e w' => e = .returned (.int .i64 (eK t0 : Nat)) ∧ (∃ sh', Rdr w' rb (eT2 t0) sh') ∧ Fr [rb] W w') := fun W rb sh h => (rbyte_any rb (eT1 t0) sh W h (by omega)).mono fun e w' hp => ⟨hp.1, ⟨_, hp.2.1⟩, hp.2.2⟩
 have H3 : Hid (∀ W rb sh, Rdr W rb (eT2 t0) sh → Calls Tryz.prog 90 #[.pointer (some ⟨rb, 0, none⟩)] W fun e w' => ∃ a c zs, e = .returned (.slice a zs.length c) ∧ w'.ownsRow W.heap.size 3 1 (.slice a zs.length c) zs.length (i1C zs) ∧ RG (eT2 t0) zs ∧ Fr [rb] W w') := fun W rb sh h => readGuids_any rb (eT2 t0) sh W h (by omega)
 obtain ⟨rb, hrb⟩ : ∃ rb, w.heap.size = rb := ⟨_, rfl⟩
 have HB : Hid (w.heap.size = rb) := hrb
 have HCC : Hid (∀ W, Fr [] w W → ∀ a c zs, W.ownsRow w.heap.size 3 1 (.slice a zs.length c) zs.length (i1C zs) → RG (eT2 t0) zs → Calls Tryz.prog 67 #[.pointer (some ⟨b, 0, none⟩), .slice a zs.length c] W fun e w' => (∃ c, e = .returned (.int .i64 c)) ∧ Q w') := HC
 obtain ⟨k0, hk0⟩ : ∃ k0, valN (rdT t0 1).data.toList = k0 := ⟨_, rfl⟩
 rw [hk0] at H1
 rw [hk] at H2
 obtain ⟨t1, ht1⟩ : ∃ t, eT1 t0 = t := ⟨_, rfl⟩
 obtain ⟨t2, ht2⟩ : ∃ t, eT2 t0 = t := ⟨_, rfl⟩
 rw [ht1] at H1 H2
 rw [ht2] at H2 H3 HCC
 clear ht1 ht2 hk hle hT hk0 HC hrb
 go_enter Tryz.func57, Tryz.ntmps57
 go_wp2_with (first
  | (go_at_call 84; refine (HN.out _).mono ?_; rintro e w1 ⟨rfl, r1, f1⟩; rw [HB.out] at r1 ⊢; have G1 : Hid ((∃ sh, Rdr w1 rb t0 sh) ∧ Fr [] w w1) := ⟨⟨_, r1⟩, f1⟩; clear r1 f1)
  | (go_at_call 90; obtain ⟨sh, g⟩ := G3.out.1; refine (H3.out _ _ _ g).mono ?_; rintro e w4 ⟨a, c, zs, rfl, o4, g4, f4⟩; have G4 : Hid (w4.ownsRow w.heap.size 3 1 (.slice a zs.length c) zs.length (i1C zs) ∧ RG t2 zs ∧ Fr [] w w4) := ⟨own_baseL o4 G3.out.2.size, g4, G3.out.2.trans f4 (fun k hk => Or.inr (by simp at hk; subst hk; exact Nat.le_of_eq HB.out))⟩; clear o4 g4 f4)
  | (go_at_call 85; obtain ⟨sh, g⟩ := G2.out.1; refine (H2.out _ _ _ g).mono ?_; rintro e w3 ⟨rfl, r3, f3⟩; have G3 : Hid ((∃ sh, Rdr w3 rb t2 sh) ∧ Fr [] w w3) := ⟨r3, G2.out.2.trans f3 (fun k hk => Or.inr (by simp at hk; subst hk; exact Nat.le_of_eq HB.out))⟩; clear r3 f3)
  | (go_at_call 85; obtain ⟨sh, g⟩ := G1.out.1; refine (H1.out _ _ _ g).mono ?_; rintro e w2 ⟨rfl, r2, f2⟩; have G2 : Hid ((∃ sh, Rdr w2 rb t1 sh) ∧ Fr [] w w2) := ⟨r2, G1.out.2.trans f2 (fun k hk => Or.inr (by simp at hk; subst hk; exact Nat.le_of_eq HB.out))⟩; clear r2 f2)
  | (go_at_call 67; refine (HCC.out _ G4.out.2.2 _ _ _ G4.out.1 G4.out.2.1).mono ?_; rintro e w9 ⟨⟨c, rfl⟩, q9⟩; have G9 : Hid (Q w9) := q9; clear q9))
 go_end0
 exact ⟨rfl, G9.out⟩
end Go.Proofs.YthdhegmlknpllaaGreat
