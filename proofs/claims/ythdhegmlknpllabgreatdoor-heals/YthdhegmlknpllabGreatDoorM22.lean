import Derived.Test.YthdhegmlknpllabGreatDoorM15
import Derived.Test.YthdhegmlknpllabGreatDoorM18
import Derived.Test.YthdhegmlknpllabGreatDoorM20
import Derived.Test.YthdhegmlknpllabGreatDoorM21
import Derived.Deep.RegionHeld3
/-
  The walks of node's keeper: newest (36); of a replica: Store (20), greatestTime (58).
-/
namespace Go.Proofs.YthdhegmlknpllabGreatDoor
open Go.RowKit Go.Maps Go.MuLone

/-- A keeper in memory (at the head of a source's or a replica's block): its store, how many it keeps, its rules. -/
structure KpC (w : World) (kb b : Nat) (last : Int) (rv : Value) : Prop where
  c0 : w.cell? ⟨kb, 0, none⟩ = some (.pointer (some ⟨b, 0, none⟩))
  c1 : w.cell? ⟨kb, 1, none⟩ = some (.int .i64 last)
  c2 : w.cell? ⟨kb, 2, none⟩ = some rv

theorem tlC_get (l : List (Int × Int × Int)) (i : Nat) (h : i < l.length) : (tlC l)[i * 3]? = some (.int .i64 l[i].1) ∧ (tlC l)[i * 3 + 1]? = some (.int .i64 l[i].2.1) ∧ (tlC l)[i * 3 + 2]? = some (.int .i64 l[i].2.2) := by
  have hf : ∀ x : Int × Int × Int, (t3c x).length = 3 := fun _ => rfl
  exact ⟨flat_get hf l i h 0 (by omega), flat_get hf l i h 1 (by omega), flat_get hf l i h 2 (by omega)⟩

set_option maxRecDepth 100000 in
set_option maxHeartbeats 1600000 in
theorem newest_any (B b kb : Nat) (s : Sto) (last : Int) (rv : Value) (w : World) (h : Rep B w b 0 s) (hl : s.ss.length ≤ 12) (hk : KpC w kb b last rv) :
    Calls Tryz.prog 36 #[.pointer (some ⟨kb, 0, none⟩)] w fun e w' => e = .returned (.int .i64 (lastG s.ss)) ∧ Rep B w' b 0 s ∧ Fr (foot b s) w w' := by
  have HS : Hid (Calls Tryz.prog 14 #[.pointer (some ⟨b, 0, none⟩)] w fun e w' => ∃ gg, e = .returned (.slice (some ⟨gg, 0, none⟩) s.ss.length s.ss.length) ∧ w.heap.size ≤ gg ∧ w'.heap[gg]? = some (.cells (tlC (s.ss.map t3)).toArray 55 (0, 0)) ∧ Rep B w' b 0 s ∧ Fr (foot b s) w w') := snaps_any B b s w h hl
  have c0 := hk.c0
  obtain ⟨n, hn⟩ : ∃ n, s.ss.length = n := ⟨_, rfl⟩
  rw [hn] at HS
  have HN : Hid (s.ss.length = n) := hn
  clear h hk hn
  by_cases h0 : n = 0
  · subst h0
    have e1 : lastG s.ss = 0 := by rw [List.eq_nil_of_length_eq_zero HN.out]; rfl
    rw [e1]
    clear e1
    go_enter Tryz.func36, Tryz.ntmps36
    go_wp2_with (go_at_call 14; refine HS.out.mono ?_; rintro e w2 ⟨gg, rfl, hgg, hg2, r2, f2⟩; have H2 : Hid (Rep B w2 b 0 s ∧ Fr (foot b s) w w2) := ⟨r2, f2⟩; clear r2 f2 hg2)
    go_ret
    exact ⟨rfl, H2.out⟩
  · have hj : n - 1 < s.ss.length := by rw [HN.out]; omega
    have e1 : lastG s.ss = s.ss[n - 1].guid := by
      unfold lastG
      rw [List.getLast?_eq_getElem?, HN.out, List.getElem?_eq_getElem hj]
      rfl
    rw [e1]
    obtain ⟨g, hg⟩ : ∃ g, s.ss[n - 1].guid = g := ⟨_, rfl⟩
    rw [hg]
    obtain ⟨j, hjj⟩ : ∃ j, n - 1 = j := ⟨_, rfl⟩
    have HC : Hid (∀ (W : World) gg, W.heap[gg]? = some (.cells (tlC (s.ss.map t3)).toArray 55 (0, 0)) → W.cell? ⟨gg, j * 3, none⟩ = some (.int .i64 g)) := fun W gg hW => by
      have hl3 : n - 1 < (s.ss.map t3).length := by rw [List.length_map]; exact hj
      have := (tlC_get (s.ss.map t3) (n - 1) hl3).1
      rw [cell_of hW, List.getElem?_toArray, ← hjj, this, List.getElem_map]
      rw [← hg]
      rfl
    have q1 : IntKind.i64.wrap ((n : Int) - 1) = (j : Int) := by rw [show (n : Int) - 1 = (j : Int) by omega]; exact wrap_fit ⟨by omega, by omega⟩
    have q2 : (n : Int) - 1 = (j : Int) := by omega
    have q3 : wrap64 (j : Int) = (j : Int) := wrap64_fit ⟨by omega, by omega⟩
    have j0 : (0 : Int) ≤ (j : Int) := by omega
    have j1 : (j : Int) < (n : Int) := by omega
    have n0 : ¬ (n : Int) = 0 := by omega
    have n1 : ((n : Int) == 0) = false := by simpa using n0
    clear e1 hg hjj hj
    go_enter Tryz.func36, Tryz.ntmps36
    go_wp2_with (go_at_call 14; refine HS.out.mono ?_; rintro e w2 ⟨gg, rfl, hgg, hg2, r2, f2⟩; have H2 : Hid (Rep B w2 b 0 s ∧ Fr (foot b s) w w2) := ⟨r2, f2⟩; have d2 := HC.out w2 gg hg2; clear r2 f2 hg2)
    go_ret
    exact ⟨rfl, H2.out⟩
end Go.Proofs.YthdhegmlknpllabGreatDoor

/-
  The walk of a replica's greatestTime (58).
-/
namespace Go.Proofs.YthdhegmlknpllabGreatDoor
open Go.RowKit Go.Maps Go.MuLone

/-- The greatest time. -/
def gts (l : List Sn) : Int := l.foldl (fun m x => max m x.time) 0
theorem gts_succ (l : List Sn) (k : Nat) (h : k < l.length) : gts (l.take (k + 1)) = max (gts (l.take k)) l[k].time := by
  unfold gts
  rw [List.take_succ_eq_append_getElem h, List.foldl_append]
  rfl

set_option maxRecDepth 100000 in
set_option maxHeartbeats 1600000 in
theorem greatest_any (B b kb : Nat) (s : Sto) (last : Int) (rv : Value) (w : World) (h : Rep B w b 0 s) (hl : s.ss.length ≤ 12) (hk : KpC w kb b last rv) :
    Calls Tryz.prog 58 #[.pointer (some ⟨kb, 0, none⟩)] w fun e w' => e = .returned (.int .i64 (gts s.ss)) ∧ Rep B w' b 0 s ∧ Fr (foot b s) w w' := by
  have HS : Hid (Calls Tryz.prog 14 #[.pointer (some ⟨b, 0, none⟩)] w fun e w' => ∃ gg, e = .returned (.slice (some ⟨gg, 0, none⟩) s.ss.length s.ss.length) ∧ w.heap.size ≤ gg ∧ w'.heap[gg]? = some (.cells (tlC (s.ss.map t3)).toArray 55 (0, 0)) ∧ Rep B w' b 0 s ∧ Fr (foot b s) w w') := snaps_any B b s w h hl
  have c0 := hk.c0
  obtain ⟨n, hn⟩ : ∃ n, s.ss.length = n := ⟨_, rfl⟩
  rw [hn] at HS hl
  have HN : Hid (s.ss.length = n ∧ w.heap.size = w.heap.size) := ⟨hn, rfl⟩
  clear h hk hn
  go_enter Tryz.func58, Tryz.ntmps58
  go_wp2_with (go_at_call 14; refine HS.out.mono ?_; rintro e w2 ⟨gg, rfl, hgg, hg2, r2, f2⟩; have H2 : Hid (Rep B w2 b 0 s ∧ Fr (foot b s) w w2 ∧ w2.heap[gg]? = some (.cells (tlC (s.ss.map t3)).toArray 55 (0, 0))) := ⟨r2, f2, hg2⟩; clear r2 f2 hg2)
  go_loopw [3, 13] (fun m i wr => ∃ k : Nat, k ≤ n ∧ i = .int .i64 k ∧ m = .int .i64 (gts (s.ss.take k)) ∧ Hid (Fr [] w2 wr)) (fun _ i _ => n - (intOf i).toNat)
  case atStart => exact ⟨0, Nat.zero_le _, rfl, rfl, Fr.refl _ _⟩
  case round =>
    obtain ⟨k, hk, rfl, rfl, HK⟩ := hrel
    obtain ⟨W3, hW3⟩ : ∃ W3, W3 = wr := ⟨_, rfl⟩
    subst hW3
    clear HS c0
    by_cases hlt : k < n
    · have hltz : (k : Int) < (n : Int) := by omega
      have hkl : k < s.ss.length := by rw [HN.out.1]; exact hlt
      have hl3 : k < (s.ss.map t3).length := by rw [List.length_map]; exact hkl
      have hb3 : W3.heap[gg]? = some (.cells (tlC (s.ss.map t3)).toArray 55 (0, 0)) := by rw [HK.out.block gg (Array.getElem?_eq_some_iff.1 H2.out.2.2).1 (by simp)]; exact H2.out.2.2
      obtain ⟨g0, g1, g2⟩ := tlC_get (s.ss.map t3) k hl3
      rw [List.getElem_map] at g0 g1 g2
      have hsu := gts_succ s.ss k hkl
      obtain ⟨x, hx⟩ : ∃ x, s.ss[k] = x := ⟨_, rfl⟩
      rw [hx] at g0 g1 g2 hsu
      have e0 : W3.cell? ⟨gg, k * 3, none⟩ = some (.int .i64 x.guid) := by rw [cell_of hb3, List.getElem?_toArray]; exact g0
      have e1 : W3.cell? ⟨gg, k * 3 + 1, none⟩ = some (.int .i64 x.time) := by rw [cell_of hb3, List.getElem?_toArray]; exact g1
      have e2 : W3.cell? ⟨gg, k * 3 + 2, none⟩ = some (.int .i64 x.holds) := by rw [cell_of hb3, List.getElem?_toArray]; exact g2
      obtain ⟨m, hm⟩ : ∃ m, gts (s.ss.take k) = m := ⟨_, rfl⟩
      obtain ⟨t, ht⟩ : ∃ t, x.time = t := ⟨_, rfl⟩
      rw [hm, ht] at hsu
      rw [ht] at e1
      rw [hm]
      have HSU : Hid (gts (s.ss.take (k + 1)) = max m t) := hsu
      clear g0 g1 g2 hsu hx hb3 hl3 hkl hm ht
      rcases Int.lt_trichotomy m t with hmt | hmt | hmt
      · have e : max m t = t := by omega
        rw [e] at HSU
        clear e
        have hmt2 : ¬ t ≤ m := by omega
        go_wp2
        go_roundw
        case rel => exact ⟨k + 1, by omega, by go_num, by rw [HSU.out], HK.out.alloc _⟩
        case measure => simp [intOf]; omega
      · subst hmt
        have e : max m m = m := by omega
        rw [e] at HSU
        clear e
        go_wp2
        all_goals
          go_roundw
          case rel => exact ⟨k + 1, by omega, by go_num, by rw [HSU.out], HK.out.alloc _⟩
          case measure => simp [intOf]; omega
      · have e : max m t = m := by omega
        rw [e] at HSU
        clear e
        have hmt2 : ¬ m ≤ t := by omega
        go_wp2
        go_roundw
        case rel => exact ⟨k + 1, by omega, by go_num, by rw [HSU.out], HK.out.alloc _⟩
        case measure => simp [intOf]; omega
    · have hkk : k = n := by omega
      have e : s.ss.take k = s.ss := List.take_of_length_le (by rw [HN.out.1]; omega)
      rw [e]
      have hltz : ¬ (k : Int) < (n : Int) := by omega
      go_wp2
      go_ret
      exact ⟨rfl, H2.out.1.kept0 HK.out, H2.out.2.1.trans HK.out (by simp)⟩
end Go.Proofs.YthdhegmlknpllabGreatDoor

/-
  A store, less some of its snapshots; Destroy (65) of one.
-/
namespace Go.Proofs.YthdhegmlknpllabGreatDoor
open Go.RowKit Go.Maps Go.MuLone

/-- A store, less the snapshots of these guids, none of which was held. -/
structure Thn (b : Nat) (s s' : Sto) (Z : List Int) (N : Nat) : Prop where
  ft : ∀ k, k ∈ foot b s' → k ∈ foot b s ∨ N ≤ k
  ss : s'.ss = left s.ss Z
  free : ∀ z ∈ Z, ∀ x ∈ s.ss, x.guid = z → ¬ 0 < x.holds
  ms : s'.ms = s.ms
  vol : s'.vol = s.vol
  id : s'.id = s.id
  cm : s'.came = s.came
  tk : s'.taken = s.taken
  cnt : s'.cnt = s.cnt
  th : ∀ g i, g ∉ Z → s'.th g i = s.th g i
  lg : s'.log.length ≤ s.log.length + 6 * Z.length
  mv : s'.mv = s.mv
theorem Thn.refl (b : Nat) (s : Sto) (N : Nat) : Thn b s s [] N := ⟨fun _ h => Or.inl h, (left_nil _).symm, fun z hz => by simp at hz, rfl, rfl, rfl, rfl, rfl, rfl, fun _ _ _ => rfl, by simp, rfl⟩
theorem left_left (ss : List Sn) (Z Y : List Int) : left (left ss Z) Y = left ss (Z ++ Y) := by
  unfold left
  rw [List.filter_filter]
  congr 1
  funext x
  simp [List.any_append, Bool.and_comm]
theorem Thn.trans {b : Nat} {s s1 s2 : Sto} {Z Y : List Int} {N N1 : Nat} (h : Thn b s s1 Z N) (h' : Thn b s1 s2 Y N1) (hN : N ≤ N1) : Thn b s s2 (Z ++ Y) N := by
  refine ⟨fun k hk => ?_, by rw [h'.ss, h.ss, left_left], fun z hz x hx e => ?_, h'.ms.trans h.ms, h'.vol.trans h.vol, h'.id.trans h.id, h'.cm.trans h.cm, h'.tk.trans h.tk, h'.cnt.trans h.cnt, fun g i hg => ?_, ?_, h'.mv.trans h.mv⟩
  · rcases h'.ft k hk with h1 | h1
    · exact h.ft k h1
    · exact Or.inr (by omega)
  · by_cases hzZ : z ∈ Z
    · exact h.free z hzZ x hx e
    · have hzY : z ∈ Y := by
        rcases List.mem_append.1 hz with h1 | h1
        · exact absurd h1 hzZ
        · exact h1
      refine h'.free z hzY x ?_ e
      rw [h.ss]
      unfold left
      refine List.mem_filter.2 ⟨hx, ?_⟩
      simp only [isG, Bool.not_eq_true', List.any_eq_false, beq_iff_eq]
      intro y hy e2
      exact hzZ (by rw [← e, e2]; exact hy)
  · rw [h'.th g i (fun hm => hg (List.mem_append.2 (Or.inr hm))), h.th g i (fun hm => hg (List.mem_append.2 (Or.inl hm)))]
  · have := h.lg
    have := h'.lg
    rw [List.length_append]
    omega

theorem RowG_one {w : World} {gb : Nat} {z : Int} (h : w.heap[gb]? = some (.cells #[.int .i64 z] 3 (0, 0))) : RowG w (some ⟨gb, 0, none⟩) [z] 1 := by
  refine ⟨Nat.le_refl _, fun _ => ⟨gb, 0, rfl, fun i hi => ?_⟩⟩
  have hi' : i = 0 := by simp at hi; omega
  subst hi'
  rw [cell_of h]
  rfl

/-- Destroy of one: it is gone, if it was there and not held; else nothing is. -/
theorem des_one (B b : Nat) (s : Sto) (z : Int) (gb : Nat) (w : World) (h : Rep B w b 0 s) (hl : s.ss.length ≤ 12) (hv : s.vol.length ≤ 16) (hu : (s.ss.map Sn.guid).Nodup) (hg : w.heap[gb]? = some (.cells #[.int .i64 z] 3 (0, 0))) (hz : In64 z) (hlg : s.log.length ≤ 140000000000000) :
    Calls Tryz.prog 65 #[.pointer (some ⟨b, 0, none⟩), .slice (some ⟨gb, 0, none⟩) 1 1] w fun e w' => Fr (foot b s) w w' ∧ ∃ s', Rep B w' b 0 s' ∧
      ((e = .returned (.int .i64 0) ∧ Thn b s s' [z] w.heap.size ∧ (∃ x ∈ s.ss, x.guid = z)) ∨ (∃ en : Int, en ≠ 0 ∧ e = .returned (.int .i64 en) ∧ s' = s ∧ ∀ x ∈ s.ss, x.guid = z → 0 < x.holds)) := by
  have hnf : gb ∉ foot b s := tag_foot h hg (by decide)
  have hin : ∀ i, i < [z].length → In64 (tm [z] i) := fun i hi => by
    have hi0 : i = 0 := by simp at hi; omega
    subst hi0
    exact hz
  refine (destroy_any B b s (some ⟨gb, 0, none⟩) [z] 1 w h hl hv hu (RowG_one hg) (by simp) hin (fun k off e _ => by simp at e; rw [← e.1]; exact hnf) hlg).mono ?_
  rintro e w' ⟨f, h1 | h1 | h1⟩
  · obtain ⟨rfl, ⟨k, hk, hfk⟩, r⟩ := h1
    refine ⟨f, s, r, Or.inr ⟨3, by decide, rfl, rfl, fun x hx ex => ?_⟩⟩
    have hk0 : k = 0 := by simp at hk; omega
    subst hk0
    simp only [fineAt, List.take_zero, List.any_nil, Bool.not_false, Bool.and_true, List.any_eq_false] at hfk
    have := hfk x hx
    simp [isG, tm, ex] at this
  · obtain ⟨rfl, _, ⟨k, hk, hhk⟩, r⟩ := h1
    refine ⟨f, s, r, Or.inr ⟨4, by decide, rfl, rfl, fun x hx ex => ?_⟩⟩
    have hk0 : k = 0 := by simp at hk; omega
    subst hk0
    obtain ⟨i, hi, rfl⟩ := List.getElem_of_mem hx
    have hq := uniq_held hu hi (g := z) (by simp [isG, ex]) (fun x => decide (x.holds > 0))
    have hhk' : (s.ss.any fun x => isG z x && decide (x.holds > 0)) = true := hhk
    rw [hhk'] at hq
    simpa using hq.symm
  · obtain ⟨rfl, hfine, hheld, s', p⟩ := h1
    refine ⟨f, s', p.rep, Or.inl ⟨rfl, ⟨p.foot, p.ss, fun y hy x hx ex hh => ?_, p.ms, p.vol, p.id, p.came, p.taken, p.cnt, p.th, ?_, p.mv⟩, ?_⟩⟩
    · have := hheld 0 (by simp)
      simp only [heldAt, List.any_eq_false, Bool.and_eq_true, decide_eq_true_eq, not_and] at this
      have hy' : y = z := by simpa using hy
      exact this x hx (by simp [isG, tm, ex, hy']) hh
    · rw [p.log, List.length_append, if_neg (by simp)]
      have e : (entry 68 (gtext [z])).length = 6 := rfl
      simp only [List.length_cons, List.length_nil]
      omega
    · have := hfine 0 (by simp)
      simp only [fineAt, List.take_zero, List.any_nil, Bool.not_false, Bool.and_true, List.any_eq_true] at this
      obtain ⟨x, hx, hxg⟩ := this
      exact ⟨x, hx, by simpa [isG, tm] using hxg⟩
end Go.Proofs.YthdhegmlknpllabGreatDoor

/-
  The walk of node's keeper.destroyFirst (66).
-/
namespace Go.Proofs.YthdhegmlknpllabGreatDoor
open Go.RowKit Go.Maps Go.MuLone

/-- A keeper's block and a list of snapshots, beside a store. -/
structure KpS (B b kb gg : Nat) (w W : World) (s s' : Sto) (last : Int) (rv : Value) (l : List (Int × Int × Int)) : Prop where
  rep : Rep B W b 0 s'
  fr : Fr (foot b s) w W
  kp : KpC W kb b last rv
  kn : kb ∉ foot b s'
  row : W.heap[gg]? = some (.cells (tlC l).toArray 55 (0, 0))
theorem KpC.fr {w w' : World} {kb b : Nat} {last : Int} {rv : Value} {F : List Nat} (h : KpC w kb b last rv) (hf : Fr F w w') (hn : kb ∉ F) : KpC w' kb b last rv := by
  have e := hf.block kb (World.block_lt_of_cell? _ _ h.c0) hn
  exact ⟨(World.cell?_of_block e).trans h.c0, (World.cell?_of_block e).trans h.c1, (World.cell?_of_block e).trans h.c2⟩
theorem KpS.same {B b kb gg : Nat} {w W W' : World} {s s' : Sto} {last : Int} {rv : Value} {l : List (Int × Int × Int)} (h : KpS B b kb gg w W s s' last rv l) (hf : Fr [] W W') : KpS B b kb gg w W' s s' last rv l :=
  ⟨h.rep.kept0 hf, h.fr.trans hf (by simp), h.kp.fr hf (by simp), h.kn, by rw [hf.block gg (Array.getElem?_eq_some_iff.1 h.row).1 (by simp)]; exact h.row⟩
theorem KpS.step {B b kb gg : Nat} {w W W' : World} {s s1 s2 : Sto} {last : Int} {rv : Value} {l : List (Int × Int × Int)} (h : KpS B b kb gg w W s s1 last rv l) (hr : Rep B W' b 0 s2) (hf : Fr (foot b s1) W W') (h1 : ∀ k ∈ foot b s1, k ∈ foot b s ∨ w.heap.size ≤ k) (h2 : ∀ k ∈ foot b s2, k ∈ foot b s1 ∨ W.heap.size ≤ k) : KpS B b kb gg w W' s s2 last rv l :=
  ⟨hr, h.fr.trans hf h1, h.kp.fr hf h.kn, fun hm => by
    rcases h2 kb hm with h3 | h3
    · exact h.kn h3
    · have := World.block_lt_of_cell? _ _ h.kp.c0
      simp at this
      omega, by rw [hf.block gg (Array.getElem?_eq_some_iff.1 h.row).1 (tag_foot h.rep h.row (by decide))]; exact h.row⟩

/-- What destroyFirst leaves. -/
def DfPost (B b kb gg : Nat) (w w' : World) (s : Sto) (last : Int) (rv : Value) (l : List (Int × Int × Int)) (m : Nat) : Prop :=
  ∃ s' Z, KpS B b kb gg w w' s s' last rv l ∧ Thn b s s' Z w.heap.size ∧
      ((∃ y ∈ l.take m, Z = [y.1] ∧ ∃ x ∈ s.ss, x.guid = y.1) ∨ (Z = [] ∧ s' = s ∧ ∀ y ∈ l.take m, ∀ x ∈ s.ss, x.guid = y.1 → 0 < x.holds))

set_option maxRecDepth 100000 in
set_option maxHeartbeats 3200000 in
theorem destroyFirst_any (B b kb gg m cap : Nat) (s : Sto) (last : Int) (rv : Value) (l : List (Int × Int × Int)) (w : World) (h : KpS B b kb gg w w s s last rv l) (hm : m ≤ l.length) (_hmc : m ≤ cap) (hl12 : l.length ≤ 12) (hl : s.ss.length ≤ 12) (hv : s.vol.length ≤ 16) (hu : (s.ss.map Sn.guid).Nodup) (hin : ∀ x ∈ l, In64 x.1) (hlg : s.log.length ≤ 140000000000000) :
    Calls Tryz.prog 66 #[.pointer (some ⟨kb, 0, none⟩), .slice (some ⟨gg, 0, none⟩) m cap] w fun e w' => e = .returned (.tuple #[]) ∧ DfPost B b kb gg w w' s last rv l m := by
  have HH : Hid (KpS B b kb gg w w s s last rv l) := h
  clear h
  go_enter Tryz.func66, Tryz.ntmps66
  go_wp2
  go_loopw [8] (fun i wr => ∃ k : Nat, k ≤ m ∧ i = .int .i64 k ∧ Hid (KpS B b kb gg w wr s s last rv l ∧ ∀ y ∈ l.take k, ∀ x ∈ s.ss, x.guid = y.1 → 0 < x.holds)) (fun i _ => m - (intOf i).toNat)
  case atStart => exact ⟨0, Nat.zero_le _, rfl, HH.out, fun y hy => by simp at hy⟩
  case round =>
    obtain ⟨k, hk, rfl, HK⟩ := hrel
    obtain ⟨W3, hW3⟩ : ∃ W3, W3 = wr := ⟨_, rfl⟩
    subst hW3
    by_cases hlt : k < m
    · have hltz : (k : Int) < (m : Int) := by omega
      have hkl : k < l.length := by omega
      obtain ⟨g0, g1, g2⟩ := tlC_get l k hkl
      have hxi := hin l[k] (List.getElem_mem hkl)
      have HTk : Hid (l.take (k + 1) = l.take k ++ [l[k]]) := List.take_succ_eq_append_getElem hkl
      have HMem : Hid (l[k] ∈ l.take m) := by
        have : (l.take m)[k]'(by rw [List.length_take]; omega) = l[k] := List.getElem_take
        rw [← this]
        exact List.getElem_mem _
      obtain ⟨x, hx⟩ : ∃ x, l[k] = x := ⟨_, rfl⟩
      rw [hx] at g0 g1 g2 hxi HTk HMem
      obtain ⟨z, t, hd⟩ := x
      simp only at g0 g1 g2 hxi
      have e0 : W3.cell? ⟨gg, k * 3, none⟩ = some (.int .i64 z) := by rw [cell_of HK.out.1.row, List.getElem?_toArray]; exact g0
      have e1 : W3.cell? ⟨gg, k * 3 + 1, none⟩ = some (.int .i64 t) := by rw [cell_of HK.out.1.row, List.getElem?_toArray]; exact g1
      have e2 : W3.cell? ⟨gg, k * 3 + 2, none⟩ = some (.int .i64 hd) := by rw [cell_of HK.out.1.row, List.getElem?_toArray]; exact g2
      obtain ⟨W4, hW4⟩ : ∃ W4, W3.alloc (.cells #[.int .i64 z, .int .i64 t, .int .i64 hd] 55) = W4 := ⟨_, rfl⟩
      obtain ⟨b5, hb5⟩ : ∃ b5, W3.heap.size = b5 := ⟨_, rfl⟩
      have n5 : W4.heap[b5]? = some (.cells #[.int .i64 z, .int .i64 t, .int .i64 hd] 55 (0, 0)) := by rw [← hW4, ← hb5]; exact heap_alloc_new W3 _
      have HK4 : Hid (KpS B b kb gg w W4 s s last rv l ∧ b5 < W4.heap.size ∧ kb < W4.heap.size) := by
        have h4 : KpS B b kb gg w W4 s s last rv l := by rw [← hW4]; exact HK.out.1.same ((Fr.refl _ _).alloc _)
        exact ⟨h4, (Array.getElem?_eq_some_iff.1 n5).1, by have := World.block_lt_of_cell? _ _ h4.kp.c0; exact this⟩
      have s0 : W4.cell? ⟨kb, 0, none⟩ = some (.pointer (some ⟨b, 0, none⟩)) := HK4.out.1.kp.c0
      have s5 : W4.cell? ⟨b5, 0, none⟩ = some (.int .i64 z) := by rw [cell_of n5]; rfl
      have lk4 : kb < W4.heap.size := HK4.out.2.2
      have l54 : b5 < W4.heap.size := HK4.out.2.1
      have HDe : Hid (∀ W, Fr [] W4 W → W.heap[W4.heap.size]? = some (.cells #[.int .i64 z] 3 (0, 0)) → Calls Tryz.prog 65 #[.pointer (some ⟨b, 0, none⟩), .slice (some ⟨W4.heap.size, 0, none⟩) 1 1] W fun e w' => ∃ en : Int, e = .returned (.int .i64 en) ∧ w'.cell? ⟨b5, 0, none⟩ = some (.int .i64 z) ∧ ∃ s' Z, KpS B b kb gg w w' s s' last rv l ∧ Thn b s s' Z w.heap.size ∧ ((en = 0 ∧ Z = [z] ∧ ∃ x ∈ s.ss, x.guid = z) ∨ (en ≠ 0 ∧ Z = [] ∧ s' = s ∧ ∀ x ∈ s.ss, x.guid = z → 0 < x.holds))) := fun W hW hg => by
        have hK := HK4.out.1.same hW
        have h5 : W.heap[b5]? = some (.cells #[.int .i64 z, .int .i64 t, .int .i64 hd] 55 (0, 0)) := by rw [hW.block b5 (Array.getElem?_eq_some_iff.1 n5).1 (by simp)]; exact n5
        have h5' : ∀ w', Fr (foot b s) W w' → w'.cell? ⟨b5, 0, none⟩ = some (.int .i64 z) := fun w' f => by
          have h6 := (f.block b5 (Array.getElem?_eq_some_iff.1 h5).1 (tag_foot hK.rep h5 (by decide))).trans h5
          rw [cell_of h6]
          rfl
        refine (des_one B b s z W4.heap.size W hK.rep hl hv hu hg hxi hlg).mono ?_
        rintro e w' ⟨f, s', r, h1 | h1⟩
        · obtain ⟨rfl, ht, hex⟩ := h1
          refine ⟨0, rfl, h5' _ f, s', [z], hK.step r f (fun k hk => Or.inl hk) ht.ft, ?_, Or.inl ⟨rfl, rfl, hex⟩⟩
          have := (Thn.refl b s w.heap.size).trans ht (hK.fr.size)
          exact this
        · obtain ⟨en, hen, rfl, rfl, hh⟩ := h1
          exact ⟨en, rfl, h5' _ f, s', [], hK.step r f (fun k hk => Or.inl hk) (fun k hk => Or.inl hk), Thn.refl b s' w.heap.size, Or.inr ⟨hen, rfl, rfl, hh⟩⟩
      clear g0 g1 g2 hx hxi n5 hkl
      go_wp2
      clear e0 e1 e2 hW4 hb5
      have dd1 : (W4.alloc (.cells #[.int .i64 z] 3)).cell? ⟨kb, 0, none⟩ = some (.pointer (some ⟨b, 0, none⟩)) := (World.cell?_of_block (Below.heap_alloc W4 _ kb lk4)).trans s0
      have dd2 : (W4.alloc (.cells #[.int .i64 z] 3)).cell? ⟨b5, 0, none⟩ = some (.int .i64 z) := (World.cell?_of_block (Below.heap_alloc W4 _ b5 l54)).trans s5
      go_region_held3 (fun w' => w'.cell? ⟨kb, 0, none⟩ = some (.pointer (some ⟨b, 0, none⟩)) ∧ w'.cell? ⟨b5, 0, none⟩ = some (.int .i64 z))
        (first
          | exact ⟨c60, c56⟩
          | go_keep)
        (first
          | (go_at_call 65; refine (HDe.out _ (by first | exact ((Fr.refl [] W4).alloc _).drew | exact ((Fr.refl [] W4).drew).alloc _ | exact (Fr.refl [] W4).alloc _) (by exact heap_alloc_new W4 _)).mono ?_; rintro e w6 ⟨en, rfl, c56, s', Z, k6, t6, d6⟩; have c60 : w6.cell? ⟨kb, 0, none⟩ = some (.pointer (some ⟨b, 0, none⟩)) := k6.kp.c0; have H6 : Hid (KpS B b kb gg w w6 s s' last rv l ∧ Thn b s s' Z w.heap.size ∧ ((en = 0 ∧ Z = [z] ∧ ∃ x ∈ s.ss, x.guid = z) ∨ (en ≠ 0 ∧ Z = [] ∧ s' = s ∧ ∀ x ∈ s.ss, x.guid = z → 0 < x.holds))) := ⟨k6, t6, d6⟩; clear k6 t6 d6))
      all_goals
        by_cases hen : en = 0
        · subst hen
          go_wp2
          exact bodyPost_ret (v := .tuple #[]) (results_none rfl _ _ _) rfl ⟨rfl, s', Z, H6.out.1, H6.out.2.1, by
            rcases H6.out.2.2 with ⟨_, h1, h2⟩ | ⟨h1, _⟩
            · exact Or.inl ⟨_, HMem.out, h1, h2⟩
            · exact absurd rfl h1⟩
        · have hene : (en == 0) = false := by simpa using hen
          have HS : Hid (KpS B b kb gg w w6 s s last rv l ∧ ∀ y ∈ l.take (k + 1), ∀ x ∈ s.ss, x.guid = y.1 → 0 < x.holds) := by
            rcases H6.out.2.2 with ⟨h1, _⟩ | ⟨_, _, h2, h3⟩
            · exact absurd h1 hen
            · have hk6 := H6.out.1
              rw [h2] at hk6
              refine ⟨hk6, fun y hy => ?_⟩
              rw [HTk.out] at hy
              rcases List.mem_append.1 hy with h4 | h4
              · exact HK.out.2 y h4
              · simp at h4
                subst h4
                exact h3
          go_wp2
          go_roundw
          case rel => exact ⟨k + 1, by omega, by go_num, HS⟩
          case measure => simp [intOf]; omega
    · have hltz : ¬ (k : Int) < (m : Int) := by omega
      have hkm : k = m := by omega
      go_wp2
      go_end0
      exact ⟨rfl, s, [], HK.out.1, Thn.refl _ _ _, Or.inr ⟨rfl, rfl, by rw [← hkm]; exact HK.out.2⟩⟩
end Go.Proofs.YthdhegmlknpllabGreatDoor
