import Derived.Test.YthdhegmlknpllabGreatDoorM22
import Derived.Test.YthdhegmlknpllabGreatDoorM06
import Derived.Test.YthdhegmlknpllabGreatDoorM19
import Derived.Test.YthdhegmlknpllabGreatDoorM25
import Derived.Test.YthdhegmlknpllabGreatDoorM33
import Derived.Test.YthdhegmlknpllabGreatDoorM32
import Derived.Test.YthdhegmlknpllabGreatDoorM35
import Derived.Test.YthdhegmlknpllabGreatDoorM16
/-
  The walk of node's keeper.thin (40).
-/
namespace Go.Proofs.YthdhegmlknpllabGreatDoor
open Go.RowKit Go.Maps Go.MuLone

/-- Rules in memory. -/
def rlC (rs : List (Int × Int)) : List Value := rs.flatMap fun x => [.int .i64 x.1, .int .i64 x.2]
theorem rlC_get (l : List (Int × Int)) (i : Nat) (h : i < l.length) : (rlC l)[i * 2]? = some (.int .i64 l[i].1) ∧ (rlC l)[i * 2 + 1]? = some (.int .i64 l[i].2) := by
  have hf : ∀ x : Int × Int, ([Value.int .i64 x.1, .int .i64 x.2] : List Value).length = 2 := fun _ => rfl
  exact ⟨flat_get hf l i h 0 (by omega), flat_get hf l i h 1 (by omega)⟩
theorem RowR_own {W : World} {base : Nat} {ao : Option Addr} {rs : List (Int × Int)} {cap : Nat} {e : TypeId} (h : W.ownsRow base e 2 (.slice ao rs.length cap) rs.length (rlC rs)) : Kp.RowR W ao rs cap := by
  by_cases h0 : rs.length = 0
  · refine ⟨?_, fun h1 => by omega⟩
    rw [h0]
    exact Nat.zero_le _
  · obtain ⟨g, hg, hc, hcc⟩ := own_addr' h (by omega)
    refine ⟨hc, fun _ => ⟨g, 0, hg, fun i hi => ?_⟩⟩
    obtain ⟨g0, g1⟩ := rlC_get rs i hi
    refine ⟨?_, ?_⟩
    · rw [Nat.zero_add, hcc _ (by omega)]; exact g0
    · rw [Nat.zero_add, hcc _ (by omega)]; exact g1
theorem RowI_blk {W : World} {tb n : Nat} {zs : List Int} (h : W.heap[tb]? = some (.cells (i1C zs).toArray 3 (0, 0))) (hn : zs.length = n) : Kp.RowI W (some ⟨tb, 0, none⟩) zs n := by
  refine ⟨by omega, fun h0 => ⟨tb, 0, rfl, fun i hi => ?_⟩⟩
  rw [Nat.zero_add, cell_of h, List.getElem?_toArray]
  simp [i1C, hi, Kp.Pl.tm]

theorem Below.fr {w w' : World} (h : Below w.heap.size w w') : Fr [] w w' := ⟨h.os, h.tape, h.output, h.size, fun k hk _ => h.block k hk⟩

/-- The times of snapshots, as pairs. -/
def tmP (l : List Sn) : List (Int × Int) := l.map fun x => (x.time, 0)

/-- What holds while thin goes on: the store, the keeper, the list of snapshots, the rules. -/
structure TJ (B b kb gg RB : Nat) (w W : World) (s s1 : Sto) (last : Int) (ra : Option Addr) (rs : List (Int × Int)) (rc : Nat) : Prop where
  kp : KpS B b kb gg w W s s1 last (.slice ra rs.length rc) (s.ss.map t3)
  ru : W.ownsRow RB 158 2 (.slice ra rs.length rc) rs.length (rlC rs)
  ft : ∀ k ∈ foot b s1, k ∈ foot b s ∨ w.heap.size ≤ k
theorem TJ.same {B b kb gg RB : Nat} {w W W' : World} {s s1 : Sto} {last : Int} {ra : Option Addr} {rs : List (Int × Int)} {rc : Nat} (h : TJ B b kb gg RB w W s s1 last ra rs rc) (hf : Fr [] W W') : TJ B b kb gg RB w W' s s1 last ra rs rc :=
  ⟨h.kp.same hf, own_fr' h.ru hf, h.ft⟩

/-- Keep's answer: as many Booleans as there are times. -/
theorem keep_bools (now last : Int) (tb : Nat) (zs : List Int) (n : Nat) (ra : Option Addr) (rs : List (Int × Int)) (rc RB : Nat) (W : World) (hn : zs.length = n) (hn12 : n ≤ 12) (ht : W.heap[tb]? = some (.cells (i1C zs).toArray 3 (0, 0))) (hr : W.ownsRow RB 158 2 (.slice ra rs.length rc) rs.length (rlC rs)) (hrs : Kp.okRs rs = true) (hnow : 0 ≤ now ∧ now ≤ 1073741824) (hz : ∀ z ∈ zs, 0 ≤ z ∧ z ≤ 1073741824) (hl : 0 ≤ last ∧ last ≤ 1000) :
    Calls Tryz.prog 64 #[.int .i64 now, .slice (some ⟨tb, 0, none⟩) n n, .int .i64 last, .slice ra rs.length rc] W fun e w' => ∃ g, e = .returned (.tuple #[.slice (some ⟨g, 0, none⟩) n n, .int .i64 0]) ∧ (∀ i, i < n → ∃ bl : Bool, w'.cell? ⟨g, i, none⟩ = some (.bool bl)) ∧ W.heap.size ≤ g ∧ Fr [] W w' := by
  subst hn
  have hrl : rs.length ≤ 4 := by
    unfold Kp.okRs at hrs
    simp at hrs
    exact hrs.1
  have hok : Kp.okA now zs last rs = true := by
    unfold Kp.okA
    have h1 : Kp.okT now = true := by unfold Kp.okT; simp; omega
    have h2 : zs.all Kp.okT = true := by
      rw [List.all_eq_true]
      intro z hz'
      have := hz z hz'
      unfold Kp.okT
      simp
      omega
    rw [h1, h2, hrs]
    simp
    omega
  refine (Kp.keep_ok now last (some ⟨tb, 0, none⟩) ra zs rs zs.length rc W (RowI_blk ht rfl) (RowR_own hr) (by omega) (by omega) (by omega) hok).mono ?_
  rintro e w' ⟨g, rfl, ho, hb⟩
  refine ⟨g, rfl, fun i hi => ?_, ?_, Below.fr hb⟩
  · obtain ⟨g', hg', _, hcc⟩ := own_addr' ho (by omega)
    have e : g = g' := by simpa using hg'
    subst e
    rw [hcc i (by omega)]
    unfold Kp.kr
    simp [hi]
  · by_cases h0 : zs.length = 0
    · rcases ho.2 with h1 | ⟨g', c, cur, h1, h2, _⟩
      · exact absurd h1.1 (by simp)
      · have e : g = g' := by simpa using (Value.slice.inj h1).1
        rw [e]
        exact h2
    · exact (ho.lt g rfl).1
end Go.Proofs.YthdhegmlknpllabGreatDoor

/-
  The walk of node's keeper.thin (40).
-/
namespace Go.Proofs.YthdhegmlknpllabGreatDoor
open Go.RowKit Go.Maps Go.MuLone

/-- What thin leaves: some that are older than the last and not held are gone; and, if there were still as many as may be, the first one of those that may go. -/
def ThPost (B b kb RB : Nat) (w w' : World) (s : Sto) (last : Int) (ra : Option Addr) (rs : List (Int × Int)) (rc : Nat) : Prop :=
  ∃ gg s1 Z1 s2 Z2, TJ B b kb gg RB w w' s s2 last ra rs rc ∧ Thn b s s1 Z1 w.heap.size ∧ Thn b s1 s2 Z2 w.heap.size ∧ (∀ z ∈ Z1, ∃ x ∈ s.ss.take (s.ss.length - 1), x.guid = z) ∧ Z1.length ≤ 12 ∧
    ((s1.ss.length < 12 ∧ Z2 = [] ∧ s2 = s1) ∨ (12 ≤ s1.ss.length ∧ ((∃ x ∈ s.ss.take (s.ss.length - 1), Z2 = [x.guid] ∧ ∃ y ∈ s1.ss, y.guid = x.guid) ∨ (Z2 = [] ∧ s2 = s1 ∧ ∀ x ∈ s.ss.take (s.ss.length - 1), ∀ y ∈ s1.ss, y.guid = x.guid → 0 < y.holds))))

theorem TJ.step {B b kb gg RB : Nat} {w W W' : World} {s s1 s2 : Sto} {last : Int} {ra : Option Addr} {rs : List (Int × Int)} {rc : Nat} (h : TJ B b kb gg RB w W s s1 last ra rs rc) (hr : Rep B W' b 0 s2) (hf : Fr (foot b s1) W W') (h2 : ∀ k ∈ foot b s2, k ∈ foot b s1 ∨ W.heap.size ≤ k) : TJ B b kb gg RB w W' s s2 last ra rs rc :=
  ⟨h.kp.step hr hf h.ft h2, own_fr h.ru hf (own_foot h.kp.rep h.ru (by decide)), fun k hk => by
    rcases h2 k hk with h3 | h3
    · exact h.ft k h3
    · have := h.kp.fr.size
      exact Or.inr (by omega)⟩

/-- What holds in thin's second loop. -/
structure TL (B b kb gg RB kg n m : Nat) (w W0 W : World) (s s1 : Sto) (Z1 : List Int) (last : Int) (ra : Option Addr) (rs : List (Int × Int)) (rc k : Nat) : Prop where
  tj : TJ B b kb gg RB w W s s1 last ra rs rc
  th : Thn b s s1 Z1 W0.heap.size
  zl : Z1.length ≤ k
  zs : ∀ z ∈ Z1, ∃ x ∈ s.ss.take m, x.guid = z
  kp : ∀ i, i < n → ∃ bl : Bool, W.cell? ⟨kg, i, none⟩ = some (.bool bl)
  sz : W0.heap.size ≤ W.heap.size
  kn : kg ∉ foot b s
  kl : 0 < n → kg < W0.heap.size
theorem TL.same {B b kb gg RB kg n m : Nat} {w W0 W W' : World} {s s1 : Sto} {Z1 : List Int} {last : Int} {ra : Option Addr} {rs : List (Int × Int)} {rc k : Nat} (h : TL B b kb gg RB kg n m w W0 W s s1 Z1 last ra rs rc k) (hf : Fr [] W W') : TL B b kb gg RB kg n m w W0 W' s s1 Z1 last ra rs rc k :=
  ⟨h.tj.same hf, h.th, h.zl, h.zs, fun i hi => by
    obtain ⟨bl, hb⟩ := h.kp i hi
    exact ⟨bl, (World.cell?_of_block (hf.block kg (Nat.lt_of_lt_of_le (h.kl (by omega)) h.sz) (by simp))).trans hb⟩, Nat.le_trans h.sz hf.size, h.kn, h.kl⟩
theorem TL.mono {B b kb gg RB kg n m : Nat} {w W0 W : World} {s s1 : Sto} {Z1 : List Int} {last : Int} {ra : Option Addr} {rs : List (Int × Int)} {rc k : Nat} (h : TL B b kb gg RB kg n m w W0 W s s1 Z1 last ra rs rc k) : TL B b kb gg RB kg n m w W0 W s s1 Z1 last ra rs rc (k + 1) :=
  ⟨h.tj, h.th, by have := h.zl; omega, h.zs, h.kp, h.sz, h.kn, h.kl⟩
theorem TL.step {B b kb gg RB kg n m : Nat} {w W0 W W' : World} {s s1 s2 : Sto} {Z1 Z : List Int} {last : Int} {ra : Option Addr} {rs : List (Int × Int)} {rc k : Nat} (h : TL B b kb gg RB kg n m w W0 W s s1 Z1 last ra rs rc k) (hr : Rep B W' b 0 s2) (hf : Fr (foot b s1) W W') (ht : Thn b s1 s2 Z W.heap.size) (hz : Z.length ≤ 1) (hzs : ∀ z ∈ Z, ∃ x ∈ s.ss.take m, x.guid = z) : TL B b kb gg RB kg n m w W0 W' s s2 (Z1 ++ Z) last ra rs rc (k + 1) := by
  refine ⟨h.tj.step hr hf ht.ft, h.th.trans ht h.sz, ?_, ?_, fun i hi => ?_, Nat.le_trans h.sz hf.size, h.kn, h.kl⟩
  · have := h.zl
    rw [List.length_append]
    omega
  · intro z hm
    rcases List.mem_append.1 hm with h1 | h1
    · exact h.zs z h1
    · exact hzs z h1
  · obtain ⟨bl, hb⟩ := h.kp i hi
    have hk0 := h.kl (by omega)
    refine ⟨bl, (World.cell?_of_block (hf.block kg (Nat.lt_of_lt_of_le hk0 h.sz) (fun hm => ?_))).trans hb⟩
    rcases h.th.ft kg hm with h1 | h1
    · exact h.kn h1
    · omega
theorem left_len (ss : List Sn) (Z : List Int) : (left ss Z).length ≤ ss.length := by unfold left; exact List.length_filter_le _ _

theorem tl_des {B b kb gg RB kg n m : Nat} {w W0 W : World} {s s1 : Sto} {Z1 : List Int} {last : Int} {ra : Option Addr} {rs : List (Int × Int)} {rc k : Nat} (h : TL B b kb gg RB kg n m w W0 W s s1 Z1 last ra rs rc k) (x : Sn) (hx : x ∈ s.ss.take m) (hl : s.ss.length ≤ 12) (hk : k ≤ 12) (hv : s.vol.length ≤ 16) (hu : (s.ss.map Sn.guid).Nodup) (hin : In64 x.guid) (hlg : s.log.length ≤ 130000000000000) (b5 gb : Nat) (t hd : Int) (h5 : W.heap[b5]? = some (.cells #[.int .i64 x.guid, .int .i64 t, .int .i64 hd] 55 (0, 0))) (hg : W.heap[gb]? = some (.cells #[.int .i64 x.guid] 3 (0, 0))) :
    Calls Tryz.prog 65 #[.pointer (some ⟨b, 0, none⟩), .slice (some ⟨gb, 0, none⟩) 1 1] W fun e w' => ∃ en : Int, e = .returned (.int .i64 en) ∧ w'.cell? ⟨b5, 0, none⟩ = some (.int .i64 x.guid) ∧ ∃ s' Z, TL B b kb gg RB kg n m w W0 w' s s' Z last ra rs rc (k + 1) := by
  have h5' : ∀ w', Fr (foot b s1) W w' → w'.cell? ⟨b5, 0, none⟩ = some (.int .i64 x.guid) := fun w' f => by
    have h6 := (f.block b5 (Array.getElem?_eq_some_iff.1 h5).1 (tag_foot h.tj.kp.rep h5 (by decide))).trans h5
    rw [cell_of h6]
    rfl
  refine (des_one B b s1 x.guid gb W h.tj.kp.rep (by rw [h.th.ss]; exact Nat.le_trans (left_len _ _) hl) (by rw [h.th.vol]; exact hv) (by rw [h.th.ss]; exact left_nodup hu _) hg hin (by have := h.th.lg; have := h.zl; omega)).mono ?_
  rintro e w' ⟨f, s', r, h1 | h1⟩
  · obtain ⟨rfl, ht, hex⟩ := h1
    exact ⟨0, rfl, h5' _ f, s', Z1 ++ [x.guid], h.step r f ht (by simp) (fun z hz => ⟨x, hx, (List.mem_singleton.1 hz).symm⟩)⟩
  · obtain ⟨en, hen, rfl, rfl, hh⟩ := h1
    exact ⟨en, rfl, h5' _ f, s', Z1 ++ [], h.step r f (Thn.refl b s' W.heap.size) (by simp) (fun z hz => by simp at hz)⟩

set_option maxRecDepth 100000 in
set_option maxHeartbeats 6400000 in
theorem thin_any (B b kb RB : Nat) (s : Sto) (last now : Int) (ra : Option Addr) (rs : List (Int × Int)) (rc : Nat) (w : World) (h : Rep B w b 0 s) (hk : KpC w kb b last (.slice ra rs.length rc)) (hkn : kb ∉ foot b s) (hro : w.ownsRow RB 158 2 (.slice ra rs.length rc) rs.length (rlC rs)) (hrs : Kp.okRs rs = true) (hlast : 0 ≤ last ∧ last ≤ 1000) (hnow : 0 ≤ now ∧ now ≤ 1073741824)
    (hl : s.ss.length ≤ 12) (hv : s.vol.length ≤ 16) (hu : (s.ss.map Sn.guid).Nodup) (hin : ∀ x ∈ s.ss, In64 x.guid) (htm : ∀ x ∈ s.ss, 0 ≤ x.time ∧ x.time ≤ 1073741824) (hlg : s.log.length ≤ 130000000000000) :
    Calls Tryz.prog 40 #[.pointer (some ⟨kb, 0, none⟩), .int .i64 now] w fun e w' => e = .returned (.tuple #[]) ∧ ThPost B b kb RB w w' s last ra rs rc := by
  obtain ⟨i0, hi, hz0, hz1, hz2⟩ := info_parts info3
  have HS : Hid (Calls Tryz.prog 14 #[.pointer (some ⟨b, 0, none⟩)] w fun e w' => ∃ gg, e = .returned (.slice (some ⟨gg, 0, none⟩) s.ss.length s.ss.length) ∧ w.heap.size ≤ gg ∧ w'.heap[gg]? = some (.cells (tlC (s.ss.map t3)).toArray 55 (0, 0)) ∧ Rep B w' b 0 s ∧ Fr (foot b s) w w') := snaps_any B b s w h hl
  have HA : Hid (KpC w kb b last (.slice ra rs.length rc) ∧ kb ∉ foot b s ∧ w.ownsRow RB 158 2 (.slice ra rs.length rc) rs.length (rlC rs) ∧ Rep B w b 0 s) := ⟨hk, hkn, hro, h⟩
  have HP : Hid (Kp.okRs rs = true ∧ (s.ss.map Sn.guid).Nodup ∧ (∀ x ∈ s.ss, In64 x.guid) ∧ (∀ x ∈ s.ss, 0 ≤ x.time ∧ x.time ≤ 1073741824)) := ⟨hrs, hu, hin, htm⟩
  have c0 := hk.c0
  obtain ⟨n, hn⟩ : ∃ n, s.ss.length = n := ⟨_, rfl⟩
  rw [hn] at HS hl
  have HN : Hid (s.ss.length = n ∧ (tmP s.ss).length = n) := ⟨hn, by simp [tmP, hn]⟩
  clear h hk hn hkn hro hrs hu hin htm
  go_enter Tryz.func40, Tryz.ntmps40
  go_wp2_with (first
    | (go_at_call 14; refine HS.out.mono ?_; rintro e w1 ⟨gg, rfl, hgg, hg1, r1, f1⟩
       have H1 : Hid (TJ B b kb gg RB w w1 s s last ra rs rc) := ⟨⟨r1, f1, HA.out.1.fr f1 HA.out.2.1, HA.out.2.1, hg1⟩, own_fr HA.out.2.2.1 f1 (own_foot HA.out.2.2.2 HA.out.2.2.1 (by decide)), fun k hk => Or.inl hk⟩
       clear r1 f1 hg1 c0)
    | (at_make; refine wpList_make_full _ rfl _ _ 22 rfl w1.heap.size 3 i0 _ 1 Tryz.underlying22 hi hz0 hz1 _ _ _ _ n rfl rfl rfl rfl (by rw [hz2]; omega) (by unfold maxLen; omega) (by simp) ?_; intro w2 hown2 hgrow2
       have H2 : Hid (TJ B b kb gg RB w w2 s s last ra rs rc ∧ w2.heap[w1.heap.size]? = some (.cells (i1C (toldM (tmP s.ss) 0)).toArray 3 (0, 0))) := ⟨H1.out.same ((Fr.refl _ _).grown hgrow2 (fun k h => by cases h)), (by have := own_full hown2; rw [← HN.out.2, made_toldM (tmP s.ss)] at this; exact this)⟩
       clear hown2 hgrow2))
  obtain ⟨tb, htb⟩ : ∃ tb, w1.heap.size = tb := ⟨_, rfl⟩
  have htw : w.heap.size ≤ tb := by rw [← htb]; exact H1.out.kp.fr.size
  rw [htb] at H2 ⊢
  clear htb H1 HS
  go_loopw [23] (fun i wr => ∃ k : Nat, k ≤ n ∧ i = .int .i64 k ∧ Hid (TJ B b kb gg RB w wr s s last ra rs rc ∧ wr.heap[tb]? = some (.cells (i1C (toldM (tmP s.ss) k)).toArray 3 (0, 0)))) (fun i _ => n - (intOf i).toNat)
  case atStart => exact ⟨0, Nat.zero_le _, rfl, H2⟩
  case round =>
    obtain ⟨k, hk, rfl, HK⟩ := hrel
    obtain ⟨W3, hW3⟩ : ∃ W3, W3 = wr := ⟨_, rfl⟩
    subst hW3
    clear H2
    by_cases hlt : k < n
    · have hltz : (k : Int) < (n : Int) := by omega
      have hkl : k < (s.ss.map t3).length := by rw [List.length_map, HN.out.1]; exact hlt
      have hks : k < s.ss.length := by rw [HN.out.1]; exact hlt
      obtain ⟨g0, g1, g2⟩ := tlC_get (s.ss.map t3) k hkl
      rw [List.getElem_map] at g0 g1 g2
      have hset := toldM_set (tmP s.ss) k (by rw [HN.out.2]; exact hlt)
      have htp : (tmP s.ss)[k]'(by rw [HN.out.2]; exact hlt) = (s.ss[k].time, 0) := by simp [tmP]
      rw [htp] at hset
      obtain ⟨x, hx⟩ : ∃ x, s.ss[k] = x := ⟨_, rfl⟩
      rw [hx] at g0 g1 g2 hset
      have e0 : W3.cell? ⟨gg, k * 3, none⟩ = some (.int .i64 x.guid) := by rw [cell_of HK.out.1.kp.row, List.getElem?_toArray]; exact g0
      have e1 : W3.cell? ⟨gg, k * 3 + 1, none⟩ = some (.int .i64 x.time) := by rw [cell_of HK.out.1.kp.row, List.getElem?_toArray]; exact g1
      have e2 : W3.cell? ⟨gg, k * 3 + 2, none⟩ = some (.int .i64 x.holds) := by rw [cell_of HK.out.1.kp.row, List.getElem?_toArray]; exact g2
      have ltb : tb < W3.heap.size := (Array.getElem?_eq_some_iff.1 HK.out.2).1
      have hll : (i1C (toldM (tmP s.ss) k)).length = n := by rw [i1C_len, toldM_len _ _ (by rw [HN.out.2]; omega), HN.out.2]
      have g3 : ∃ v, W3.cell? ⟨tb, k, none⟩ = some v := by rw [cell_of HK.out.2, List.getElem?_toArray]; exact ⟨_, List.getElem?_eq_getElem (by omega)⟩
      obtain ⟨y0, g3⟩ := g3
      have z3 : W3.frozen? ⟨tb, k, none⟩ = false := froz_of HK.out.2 _
      have HK8 : Hid (∀ o, TJ B b kb gg RB w ((W3.setCell ⟨tb, k, none⟩ (.int .i64 x.time)).alloc o) s s last ra rs rc ∧ ((W3.setCell ⟨tb, k, none⟩ (.int .i64 x.time)).alloc o).heap[tb]? = some (.cells (i1C (toldM (tmP s.ss) (k + 1))).toArray 3 (0, 0))) := fun o => by
        have hf : Fr [tb] W3 (W3.setCell ⟨tb, k, none⟩ (.int .i64 x.time)) := (Fr.refl _ _).setCell _ (Or.inl (by simp))
        have htf : tb ∉ foot b s := tag_foot HK.out.1.kp.rep HK.out.2 (by decide)
        have hkb : kb ≠ tb := fun e => by
          have := World.block_lt_of_cell? _ _ HA.out.1.c0
          simp at this
          omega
        have hgt : gg ≠ tb := fun e => by
          have h1 := HK.out.1.kp.row
          rw [e, HK.out.2] at h1
          simp at h1
        have hT : TJ B b kb gg RB w (W3.setCell ⟨tb, k, none⟩ (.int .i64 x.time)) s s last ra rs rc := by
          refine ⟨⟨HK.out.1.kp.rep.kept hf (fun j hj hm => by simp at hm; subst hm; exact htf hj), HK.out.1.kp.fr.setCell _ (Or.inr htw), HK.out.1.kp.kp.fr hf (by simpa using hkb), HK.out.1.kp.kn, ?_⟩, own_fr HK.out.1.ru hf (fun j hj hm => ?_), HK.out.1.ft⟩
          · rw [heap_setCell_other _ _ _ _ hgt]; exact HK.out.1.kp.row
          · obtain ⟨_, cur, h4⟩ := own_tag HK.out.1.ru hj
            simp at hm
            rw [hm, HK.out.2] at h4
            simp at h4
        refine ⟨hT.same ((Fr.refl _ _).alloc _), ?_⟩
        rw [Below.heap_alloc _ _ _ (by simpa using ltb), heap_setCell_same _ tb k _ _ _ HK.out.2, ← hset, ← i1C_set]
        simp
      clear g0 g1 g2 hx hset htp hkl hks hll
      go_wp2
      go_roundw
      case rel => exact ⟨k + 1, by omega, by go_num, HK8.out _⟩
      case measure => simp [intOf]; omega
    · have hltz : ¬ (k : Int) < (n : Int) := by omega
      have hkn : k = n := by omega
      have HT : Hid (W3.heap[tb]? = some (.cells (i1C ((tmP s.ss).map Prod.fst)).toArray 3 (0, 0))) := by
        have := HK.out.2
        rw [hkn, ← HN.out.2, toldM_end] at this
        exact this
      have HKe : Hid (∀ W, Fr [] W3 W → Calls Tryz.prog 64 #[.int .i64 now, .slice (some ⟨tb, 0, none⟩) n n, .int .i64 last, .slice ra rs.length rc] W fun e w' => ∃ g, e = .returned (.tuple #[.slice (some ⟨g, 0, none⟩) n n, .int .i64 0]) ∧ (∀ i, i < n → ∃ bl : Bool, w'.cell? ⟨g, i, none⟩ = some (.bool bl)) ∧ W.heap.size ≤ g ∧ Fr [] W w') := fun W hW => by
        refine keep_bools now last tb ((tmP s.ss).map Prod.fst) n ra rs rc RB W (by rw [List.length_map, HN.out.2]) hl (by rw [hW.block tb (Array.getElem?_eq_some_iff.1 HT.out).1 (by simp)]; exact HT.out) (own_fr' HK.out.1.ru hW) HP.out.1 hnow (fun z hz => ?_) hlast
        simp [tmP] at hz
        obtain ⟨x, hx, rfl⟩ := hz
        exact HP.out.2.2.2 x hx
      have k1 := HK.out.1.kp.kp.c1
      have k2 := HK.out.1.kp.kp.c2
      go_wp2
      go_region_held3 (fun w' => w'.cell? ⟨kb, 1, none⟩ = some (.int .i64 last) ∧ w'.cell? ⟨kb, 2, none⟩ = some (.slice ra rs.length rc))
        (first
          | exact ⟨c61, c62⟩
          | go_keep)
        (first
          | (go_at_call 64; refine (HKe.out _ (by first | exact (Fr.refl [] W3).drew | exact Fr.refl [] W3)).mono ?_; rintro e w6 ⟨kg, rfl, hkb6, hkg, f6⟩; have k6 := HK.out.1.same (by first | exact f6 | exact ((Fr.refl [] W3).drew).trans f6 (by simp)); have c61 : w6.cell? ⟨kb, 1, none⟩ = some (.int .i64 last) := k6.kp.kp.c1; have c62 : w6.cell? ⟨kb, 2, none⟩ = some (.slice ra rs.length rc) := k6.kp.kp.c2; have H6 : Hid (TJ B b kb gg RB w w6 s s last ra rs rc ∧ (∀ i, i < n → ∃ bl : Bool, w6.cell? ⟨kg, i, none⟩ = some (.bool bl)) ∧ w.heap.size ≤ kg ∧ kg ∉ foot b s) := ⟨k6, hkb6, by have := HK.out.1.kp.fr.size; first | exact Nat.le_trans this hkg | (simp at hkg; omega), fun hm => by have := (HK.out.1.kp.rep.lt kg hm).2; first | exact absurd this (Nat.not_lt.2 hkg) | (simp at hkg; omega)⟩; clear k6 hkb6 hkg f6))
      obtain ⟨m, hm⟩ : ∃ m, n - 1 = m := ⟨_, rfl⟩
      have hmx : max 0 ((n : Int) - 1) = (m : Int) := by omega
      have HM : Hid (n - 1 = m) := hm
      have H7 : Hid (TL B b kb gg RB kg n m w w6 w6 s s [] last ra rs rc 0) := ⟨H6.out.1, Thn.refl _ _ _, Nat.le_refl _, fun z hz => by simp at hz, H6.out.2.1, Nat.le_refl _, H6.out.2.2.2, fun h0 => by
        obtain ⟨bl, hb⟩ := H6.out.2.1 0 h0
        have := World.block_lt_of_cell? _ _ hb
        exact this⟩
      have hmn : m ≤ n := by omega
      clear HK HT HKe k1 k2 c61 c62 hltz hm H6
      go_wp2
      go_loopw [56] (fun i wr => ∃ k : Nat, k ≤ m ∧ i = .int .i64 k ∧ Hid (∃ s1 Z1, TL B b kb gg RB kg n m w w6 wr s s1 Z1 last ra rs rc k)) (fun i _ => m - (intOf i).toNat)
      case atStart => exact ⟨0, Nat.zero_le _, rfl, s, [], H7.out⟩
      case round =>
        clear H7
        obtain ⟨k, hk, rfl, HK⟩ := hrel
        obtain ⟨s1, Z1, hK⟩ := HK.out
        have HK1 : Hid (TL B b kb gg RB kg n m w w6 wr s s1 Z1 last ra rs rc k) := hK
        clear HK hK
        obtain ⟨W3, hW3⟩ : ∃ W3, W3 = wr := ⟨_, rfl⟩
        subst hW3
        by_cases hlt : k < m
        · have hltz : (k : Int) < (m : Int) := by omega
          have hlnz : (k : Int) < (n : Int) := by omega
          have hkl : k < (s.ss.map t3).length := by rw [List.length_map, HN.out.1]; omega
          have hks : k < s.ss.length := by rw [HN.out.1]; omega
          obtain ⟨g0, g1, g2⟩ := tlC_get (s.ss.map t3) k hkl
          rw [List.getElem_map] at g0 g1 g2
          have HMem : Hid (s.ss[k] ∈ s.ss.take m ∧ In64 s.ss[k].guid) := by
            refine ⟨?_, HP.out.2.2.1 _ (List.getElem_mem hks)⟩
            have : (s.ss.take m)[k]'(by rw [List.length_take]; omega) = s.ss[k] := List.getElem_take
            rw [← this]
            exact List.getElem_mem _
          obtain ⟨x, hx⟩ : ∃ x, s.ss[k] = x := ⟨_, rfl⟩
          rw [hx] at g0 g1 g2 HMem
          have e0 : W3.cell? ⟨gg, k * 3, none⟩ = some (.int .i64 x.guid) := by rw [cell_of HK1.out.tj.kp.row, List.getElem?_toArray]; exact g0
          have e1 : W3.cell? ⟨gg, k * 3 + 1, none⟩ = some (.int .i64 x.time) := by rw [cell_of HK1.out.tj.kp.row, List.getElem?_toArray]; exact g1
          have e2 : W3.cell? ⟨gg, k * 3 + 2, none⟩ = some (.int .i64 x.holds) := by rw [cell_of HK1.out.tj.kp.row, List.getElem?_toArray]; exact g2
          obtain ⟨W4, hW4⟩ : ∃ W4, W3.alloc (.cells #[.int .i64 x.guid, .int .i64 x.time, .int .i64 x.holds] 55) = W4 := ⟨_, rfl⟩
          obtain ⟨b5, hb5⟩ : ∃ b5, W3.heap.size = b5 := ⟨_, rfl⟩
          have n5 : W4.heap[b5]? = some (.cells #[.int .i64 x.guid, .int .i64 x.time, .int .i64 x.holds] 55 (0, 0)) := by rw [← hW4, ← hb5]; exact heap_alloc_new W3 _
          have h4 : TL B b kb gg RB kg n m w w6 W4 s s1 Z1 last ra rs rc k := by rw [← hW4]; exact HK1.out.same ((Fr.refl _ _).alloc _)
          obtain ⟨bl, hbl⟩ := h4.kp k (by omega)
          have HK4 : Hid (TL B b kb gg RB kg n m w w6 W4 s s1 Z1 last ra rs rc k ∧ b5 < W4.heap.size ∧ kb < W4.heap.size) :=
            ⟨h4, (Array.getElem?_eq_some_iff.1 n5).1, by have := World.block_lt_of_cell? _ _ h4.tj.kp.kp.c0; exact this⟩
          have s0 : W4.cell? ⟨kb, 0, none⟩ = some (.pointer (some ⟨b, 0, none⟩)) := HK4.out.1.tj.kp.kp.c0
          have s5 : W4.cell? ⟨b5, 0, none⟩ = some (.int .i64 x.guid) := by rw [cell_of n5]; rfl
          have lk4 : kb < W4.heap.size := HK4.out.2.2
          have l54 : b5 < W4.heap.size := HK4.out.2.1
          have HDe : Hid (∀ W, Fr [] W4 W → W.heap[W4.heap.size]? = some (.cells #[.int .i64 x.guid] 3 (0, 0)) → Calls Tryz.prog 65 #[.pointer (some ⟨b, 0, none⟩), .slice (some ⟨W4.heap.size, 0, none⟩) 1 1] W fun e w' => ∃ en : Int, e = .returned (.int .i64 en) ∧ w'.cell? ⟨b5, 0, none⟩ = some (.int .i64 x.guid) ∧ ∃ s' Z, TL B b kb gg RB kg n m w w6 w' s s' Z last ra rs rc (k + 1)) := fun W hW hg => by
            have hK := HK4.out.1.same hW
            have h5 : W.heap[b5]? = some (.cells #[.int .i64 x.guid, .int .i64 x.time, .int .i64 x.holds] 55 (0, 0)) := by rw [hW.block b5 (Array.getElem?_eq_some_iff.1 n5).1 (by simp)]; exact n5
            exact tl_des hK x HMem.out.1 (by rw [HN.out.1]; exact hl) (by omega) hv HP.out.2.1 HMem.out.2 hlg b5 W4.heap.size _ _ h5 hg
          clear g0 g1 g2 hx n5 hkl h4 hks
          cases bl with
          | true =>
            clear HDe
            have HS : Hid (TL B b kb gg RB kg n m w w6 W4 s s1 Z1 last ra rs rc (k + 1)) := HK4.out.1.mono
            go_wp2
            go_roundw
            case rel => exact ⟨k + 1, by omega, by go_num, s1, Z1, HS.out⟩
            case measure => simp [intOf]; omega
          | false =>
            go_wp2
            clear e0 e1 e2 hW4 hb5
            have dd1 : (W4.alloc (.cells #[.int .i64 x.guid] 3)).cell? ⟨kb, 0, none⟩ = some (.pointer (some ⟨b, 0, none⟩)) := (World.cell?_of_block (Below.heap_alloc W4 _ kb lk4)).trans s0
            have dd2 : (W4.alloc (.cells #[.int .i64 x.guid] 3)).cell? ⟨b5, 0, none⟩ = some (.int .i64 x.guid) := (World.cell?_of_block (Below.heap_alloc W4 _ b5 l54)).trans s5
            go_region_held3 (fun w' => w'.cell? ⟨kb, 0, none⟩ = some (.pointer (some ⟨b, 0, none⟩)) ∧ w'.cell? ⟨b5, 0, none⟩ = some (.int .i64 x.guid))
              (first
                | exact ⟨c60, c56⟩
                | go_keep)
              (first
                | (go_at_call 65; refine (HDe.out _ (by first | exact ((Fr.refl [] W4).alloc _).drew | exact ((Fr.refl [] W4).drew).alloc _ | exact (Fr.refl [] W4).alloc _) (by exact heap_alloc_new W4 _)).mono ?_; rintro e w7 ⟨en, rfl, c56, s', Z, t7⟩; have c60 : w7.cell? ⟨kb, 0, none⟩ = some (.pointer (some ⟨b, 0, none⟩)) := t7.tj.kp.kp.c0; have H7 : Hid (TL B b kb gg RB kg n m w w6 w7 s s' Z last ra rs rc (k + 1)) := t7; clear t7))
            all_goals
              go_wp2
              go_roundw
              case rel => exact ⟨k + 1, by omega, by go_num, s', Z, H7.out⟩
              case measure => simp [intOf]; omega
        · have hltz : ¬ (k : Int) < (m : Int) := by omega
          have k0 := HK1.out.tj.kp.kp.c0
          have HS : Hid (Calls Tryz.prog 14 #[.pointer (some ⟨b, 0, none⟩)] W3 fun e w' => ∃ g2, e = .returned (.slice (some ⟨g2, 0, none⟩) s1.ss.length s1.ss.length) ∧ W3.heap.size ≤ g2 ∧ w'.heap[g2]? = some (.cells (tlC (s1.ss.map t3)).toArray 55 (0, 0)) ∧ Rep B w' b 0 s1 ∧ Fr (foot b s1) W3 w') := snaps_any B b s1 W3 HK1.out.tj.kp.rep (by rw [HK1.out.th.ss]; have := left_len s.ss Z1; have := HN.out.1; omega)
          obtain ⟨n1, hn1⟩ : ∃ n1, s1.ss.length = n1 := ⟨_, rfl⟩
          have HN1 : Hid (s1.ss.length = n1) := hn1
          have hn12 : n1 ≤ 12 := by rw [← hn1, HK1.out.th.ss]; have := left_len s.ss Z1; have := HN.out.1; omega
          rw [hn1] at HS
          clear hn1
          have HE : Hid (s.ss.length - 1 = m) := by have := HN.out.1; have := HM.out; show _ = _; omega
          rcases Nat.lt_or_ge n1 12 with h12 | h12
          · have h12z : ¬ (12 : Int) ≤ (n1 : Int) := by omega
            go_wp2_with (first
              | (go_at_call 14; refine HS.out.mono ?_; rintro e w8 ⟨g2, rfl, hg2, hr2, r8, f8⟩
                 have H8 : Hid (TJ B b kb gg RB w w8 s s1 last ra rs rc) := HK1.out.tj.step r8 f8 (fun k hk => Or.inl hk)
                 clear r8 f8 hr2 hg2 k0))
            have HT : Hid (Thn b s s1 Z1 w.heap.size) := ⟨HK1.out.tj.ft, HK1.out.th.ss, HK1.out.th.free, HK1.out.th.ms, HK1.out.th.vol, HK1.out.th.id, HK1.out.th.cm, HK1.out.th.tk, HK1.out.th.cnt, HK1.out.th.th, HK1.out.th.lg, HK1.out.th.mv⟩
            have HP2 : Hid (ThPost B b kb RB w w8 s last ra rs rc) := ⟨gg, s1, Z1, s1, [], H8.out, HT.out, Thn.refl _ _ _, by rw [HE.out]; exact HK1.out.zs, by have := HK1.out.zl; omega, Or.inl ⟨by rw [HN1.out]; exact h12, rfl, rfl⟩⟩
            clear HT H8 HK1
            go_end0
            exact ⟨rfl, HP2.out⟩
          · have h12z : (12 : Int) ≤ (n1 : Int) := by omega
            go_wp2_with (first
              | (go_at_call 66; refine HD.out.mono ?_; rintro e w9 ⟨rfl, D9⟩
                 have H9 : Hid (DfPost B b kb gg w8 w9 s1 last (.slice ra rs.length rc) (s.ss.map t3) m) := D9
                 clear D9)
              | (go_at_call 14; refine HS.out.mono ?_; rintro e w8 ⟨g2, rfl, hg2, hr2, r8, f8⟩
                 have H8 : Hid (TJ B b kb gg RB w w8 s s1 last ra rs rc) := HK1.out.tj.step r8 f8 (fun k hk => Or.inl hk)
                 clear r8 f8 hr2 hg2 k0
                 have k8 := H8.out.kp.kp.c0
                 have HD : Hid (Calls Tryz.prog 66 #[.pointer (some ⟨kb, 0, none⟩), .slice (some ⟨gg, 0, none⟩) m n] w8 fun e w' => e = .returned (.tuple #[]) ∧ DfPost B b kb gg w8 w' s1 last (.slice ra rs.length rc) (s.ss.map t3) m) := destroyFirst_any B b kb gg m n s1 last _ (s.ss.map t3) w8 ⟨H8.out.kp.rep, Fr.refl _ _, H8.out.kp.kp, H8.out.kp.kn, H8.out.kp.row⟩ (by rw [List.length_map, HN.out.1]; exact hmn) hmn (by rw [List.length_map, HN.out.1]; exact hl) (by rw [HN1.out]; exact hn12) (by rw [HK1.out.th.vol]; exact hv) (by rw [HK1.out.th.ss]; exact left_nodup HP.out.2.1 _) (fun x hx => by
                   obtain ⟨y, hy, rfl⟩ := List.mem_map.1 hx
                   exact HP.out.2.2.1 y hy) (by have := HK1.out.th.lg; have := HK1.out.zl; omega)))
            have HT : Hid (Thn b s s1 Z1 w.heap.size) := ⟨HK1.out.tj.ft, HK1.out.th.ss, HK1.out.th.free, HK1.out.th.ms, HK1.out.th.vol, HK1.out.th.id, HK1.out.th.cm, HK1.out.th.tk, HK1.out.th.cnt, HK1.out.th.th, HK1.out.th.lg, HK1.out.th.mv⟩
            have HP2 : Hid (ThPost B b kb RB w w9 s last ra rs rc) := by
              obtain ⟨s2, Z2, hk9, ht9, hd9⟩ := H9.out
              have hT9 := H8.out.step hk9.rep hk9.fr ht9.ft
              have hw8 := H8.out.kp.fr.size
              refine ⟨gg, s1, Z1, s2, Z2, hT9, HT.out, (Thn.refl b s1 w.heap.size).trans ht9 hw8, by rw [HE.out]; exact HK1.out.zs, by have := HK1.out.zl; omega, Or.inr ⟨by rw [HN1.out]; exact h12, ?_⟩⟩
              rw [HE.out]
              rcases hd9 with ⟨y, hy, hz, x, hx, ex⟩ | ⟨hz, hs, hh⟩
              · rw [← List.map_take] at hy
                obtain ⟨x0, hx0, rfl⟩ := List.mem_map.1 hy
                exact Or.inl ⟨x0, hx0, hz, x, hx, ex⟩
              · refine Or.inr ⟨hz, hs, fun x hx y hy e => hh (t3 x) ?_ y hy e⟩
                rw [← List.map_take]
                exact List.mem_map.2 ⟨x, hx, rfl⟩
            clear HT H8 HK1 H9
            go_end0
            exact ⟨rfl, HP2.out⟩
end Go.Proofs.YthdhegmlknpllabGreatDoor

/-
  A replica in memory; the walk of node's Replica.takeIn (37).
-/
namespace Go.Proofs.YthdhegmlknpllabGreatDoor
open Go.RowKit Go.Maps Go.MuLone

/-- A keeper, its store and its rules. -/
structure RK (B b kb RB : Nat) (W : World) (s : Sto) (last : Int) (ra : Option Addr) (rs : List (Int × Int)) (rc : Nat) : Prop where
  rep : Rep B W b 0 s
  kp : KpC W kb b last (.slice ra rs.length rc)
  kn : kb ∉ foot b s
  ru : W.ownsRow RB 158 2 (.slice ra rs.length rc) rs.length (rlC rs)
theorem RK.same {B b kb RB : Nat} {W W' : World} {s : Sto} {last : Int} {ra : Option Addr} {rs : List (Int × Int)} {rc : Nat} (h : RK B b kb RB W s last ra rs rc) (hf : Fr [] W W') : RK B b kb RB W' s last ra rs rc :=
  ⟨h.rep.kept0 hf, h.kp.fr hf (by simp), h.kn, own_fr' h.ru hf⟩
theorem RK.step {B b kb RB : Nat} {W W' : World} {s s2 : Sto} {last : Int} {ra : Option Addr} {rs : List (Int × Int)} {rc : Nat} (h : RK B b kb RB W s last ra rs rc) (hr : Rep B W' b 0 s2) (hf : Fr (foot b s) W W') (h2 : ∀ k ∈ foot b s2, k ∈ foot b s ∨ W.heap.size ≤ k) : RK B b kb RB W' s2 last ra rs rc :=
  ⟨hr, h.kp.fr hf h.kn, fun hm => by
    rcases h2 kb hm with h3 | h3
    · exact h.kn h3
    · have := World.block_lt_of_cell? _ _ h.kp.c0
      simp at this
      omega, own_fr h.ru hf (own_foot h.rep h.ru (by decide))⟩

/-- Thin leaves room, unless all that may go are held. -/
theorem ThPost.out {B b kb RB : Nat} {w w' : World} {s : Sto} {last : Int} {ra : Option Addr} {rs : List (Int × Int)} {rc : Nat} (h : ThPost B b kb RB w w' s last ra rs rc) (hl : s.ss.length ≤ 12) (hh : s.ss.length = 12 → ∃ x ∈ s.ss.take (s.ss.length - 1), ¬ 0 < x.holds) :
    ∃ s2 Z, RK B b kb RB w' s2 last ra rs rc ∧ Fr (foot b s) w w' ∧ Thn b s s2 Z w.heap.size ∧ (∀ z ∈ Z, ∃ x ∈ s.ss.take (s.ss.length - 1), x.guid = z) ∧ Z.length ≤ 13 ∧ s2.ss.length < 12 := by
  obtain ⟨gg, s1, Z1, s2, Z2, tj, t1, t2, hz1, hzl, hd⟩ := h
  have hR : RK B b kb RB w' s2 last ra rs rc := ⟨tj.kp.rep, tj.kp.kp, tj.kp.kn, tj.ru⟩
  refine ⟨s2, Z1 ++ Z2, hR, tj.kp.fr, t1.trans t2 (Nat.le_refl _), ?_⟩
  rcases hd with ⟨h1, h2, h3⟩ | ⟨h1, h2⟩
  · subst h2 h3
    rw [List.append_nil]
    exact ⟨hz1, by omega, h1⟩
  · have hll : (left s.ss Z1).length ≤ s.ss.length := left_len _ _
    rw [t1.ss] at h1
    have hall : left s.ss Z1 = s.ss := by
      unfold left at hll h1 ⊢
      exact List.filter_eq_self.2 (by
        have : (List.filter (fun x => !Z1.any fun z => isG z x) s.ss).length = s.ss.length := by
          first
            | omega
            | (unfold left at hll; omega)
        exact List.length_filter_eq_length_iff.1 this)
    rcases h2 with ⟨x, hx, hz2, y, hy, hyx⟩ | ⟨_, _, h4⟩
    · subst hz2
      refine ⟨fun z hz => ?_, by simp; omega, ?_⟩
      · rcases List.mem_append.1 hz with h5 | h5
        · exact hz1 z h5
        · exact ⟨x, hx, (List.mem_singleton.1 h5).symm⟩
      · rw [t2.ss]
        rw [t1.ss, hall] at hy ⊢
        have hlt : (left s.ss [x.guid]).length < s.ss.length := by
          unfold left
          refine List.length_filter_lt_length_iff_exists.2 ⟨y, hy, ?_⟩
          simp [isG, hyx]
        omega
    · exfalso
      rw [hall] at h1
      obtain ⟨x, hx, hx0⟩ := hh (by omega)
      refine hx0 (h4 x hx x ?_ rfl)
      rw [t1.ss, hall]
      exact List.mem_of_mem_take hx

/-- takeIn where Receive says that it is there already. -/
theorem takein_dup (B b kb RB : Nat) (s : Sto) (last : Int) (ra : Option Addr) (rs : List (Int × Int)) (rc : Nat) (tx : ByteArray) (w : World) (h : RK B b kb RB w s last ra rs rc) (f t m nb : Int) (l : List (Int × B4))
    (hp : ∀ W, Calls Tryz.prog 59 #[.string tx] W fun e w' => ∃ v, e = .returned (.tuple #[.agg #[.int .i64 f, .int .i64 t, .int .i64 m, .int .i64 nb, v], .bool true]) ∧ w'.ownsRow W.heap.size 166 5 v l.length (blC l) ∧ Fr [] W w')
    (hr : Calls Tryz.prog 57 #[.pointer (some ⟨b, 0, none⟩), .string tx] w fun e w' => e = .returned (.tuple #[.int .i64 0, .int .i64 7]) ∧ Rep B w' b 0 s ∧ Fr (foot b s) w w') :
    Calls Tryz.prog 37 #[.pointer (some ⟨kb, 0, none⟩), .string tx] w fun e w' => e = .returned (.tuple #[.int .u8 71, .int .i64 t]) ∧ RK B b kb RB w' s last ra rs rc ∧ Fr (foot b s) w w' := by
  have c0 := h.kp.c0
  have HH : Hid (RK B b kb RB w s last ra rs rc) := h
  have HP : Hid (∀ W, Calls Tryz.prog 59 #[.string tx] W fun e w' => ∃ v, e = .returned (.tuple #[.agg #[.int .i64 f, .int .i64 t, .int .i64 m, .int .i64 nb, v], .bool true]) ∧ w'.ownsRow W.heap.size 166 5 v l.length (blC l) ∧ Fr [] W w') := hp
  have HR : Hid (Calls Tryz.prog 57 #[.pointer (some ⟨b, 0, none⟩), .string tx] w fun e w' => e = .returned (.tuple #[.int .i64 0, .int .i64 7]) ∧ Rep B w' b 0 s ∧ Fr (foot b s) w w') := hr
  clear h hp hr
  go_enter Tryz.func37, Tryz.ntmps37
  go_wp2_with (first
    | (go_at_call 59; refine (HP.out _).mono ?_; rintro e w2 ⟨v, rfl, o2, f2⟩
       obtain ⟨va, vc, hva⟩ := own_shape o2
       subst hva
       have H2 : Hid (RK B b kb RB w2 s last ra rs rc ∧ Fr (foot b s) w w2) := ⟨H1.out.1.same f2, H1.out.2.trans f2 (by simp)⟩
       clear o2 f2)
    | (go_at_call 57; refine HR.out.mono ?_; rintro e w1 ⟨rfl, r1, f1⟩
       have H1 : Hid (RK B b kb RB w1 s last ra rs rc ∧ Fr (foot b s) w w1) := ⟨HH.out.step r1 f1 (fun k hk => Or.inl hk), f1⟩
       clear r1 f1 c0))
  obtain ⟨w3, hw3⟩ : ∃ w3, w2.alloc (.cells #[.int .i64 f, .int .i64 t, .int .i64 m, .int .i64 nb, .slice va l.length vc] 133) = w3 := ⟨_, rfl⟩
  obtain ⟨b3, hb3⟩ : ∃ b3, w2.heap.size = b3 := ⟨_, rfl⟩
  have n3 : w3.heap[b3]? = some (.cells #[.int .i64 f, .int .i64 t, .int .i64 m, .int .i64 nb, .slice va l.length vc] 133 (0, 0)) := by rw [← hw3, ← hb3]; exact heap_alloc_new w2 _
  have d1 : w3.cell? ⟨b3, 1, none⟩ = some (.int .i64 t) := by rw [cell_of n3]; rfl
  have H3 : Hid (RK B b kb RB w3.drew s last ra rs rc ∧ Fr (foot b s) w w3.drew) := by
    rw [← hw3]
    exact ⟨H2.out.1.same (((Fr.refl _ _).alloc _).drew), (H2.out.2.alloc _).drew⟩
  rw [hw3, hb3]
  clear hw3 hb3 n3 H1 H2
  go_region
  go_wp2
  exact bodyPost_ret (results_tmp2 rfl _ _ _) rfl ⟨rfl, H3.out⟩

/-- takeIn where Receive refuses. -/
theorem takein_err (B b kb RB : Nat) (s : Sto) (last : Int) (ra : Option Addr) (rs : List (Int × Int)) (rc : Nat) (tx : ByteArray) (w : World) (h : RK B b kb RB w s last ra rs rc) (hl : s.ss.length ≤ 12)
    (hr : Calls Tryz.prog 57 #[.pointer (some ⟨b, 0, none⟩), .string tx] w fun e w' => e = .returned (.tuple #[.int .i64 0, .int .i64 6]) ∧ Rep B w' b 0 s ∧ Fr (foot b s) w w') :
    Calls Tryz.prog 37 #[.pointer (some ⟨kb, 0, none⟩), .string tx] w fun e w' => e = .returned (.tuple #[.int .u8 72, .int .i64 (lastG s.ss)]) ∧ RK B b kb RB w' s last ra rs rc ∧ Fr (foot b s) w w' := by
  have c0 := h.kp.c0
  have HH : Hid (RK B b kb RB w s last ra rs rc) := h
  obtain ⟨la, hla⟩ : ∃ la, lastG s.ss = la := ⟨_, rfl⟩
  have HNw : Hid (∀ W, RK B b kb RB W s last ra rs rc → Calls Tryz.prog 36 #[.pointer (some ⟨kb, 0, none⟩)] W fun e w' => e = .returned (.int .i64 la) ∧ Rep B w' b 0 s ∧ Fr (foot b s) W w') := fun W hW => by
    rw [← hla]
    exact newest_any B b kb s last _ W hW.rep hl hW.kp
  have HR : Hid (Calls Tryz.prog 57 #[.pointer (some ⟨b, 0, none⟩), .string tx] w fun e w' => e = .returned (.tuple #[.int .i64 0, .int .i64 6]) ∧ Rep B w' b 0 s ∧ Fr (foot b s) w w') := hr
  rw [hla]
  clear h hr hla
  go_enter Tryz.func37, Tryz.ntmps37
  go_wp2_with (first
    | (go_at_call 36; refine (HNw.out _ H1.out.1).mono ?_; rintro e w2 ⟨rfl, r2, f2⟩
       have H2 : Hid (RK B b kb RB w2 s last ra rs rc ∧ Fr (foot b s) w w2) := ⟨H1.out.1.step r2 f2 (fun k hk => Or.inl hk), H1.out.2.trans f2 (fun k hk => Or.inl hk)⟩
       clear r2 f2)
    | (go_at_call 57; refine HR.out.mono ?_; rintro e w1 ⟨rfl, r1, f1⟩
       have H1 : Hid (RK B b kb RB w1 s last ra rs rc ∧ Fr (foot b s) w w1) := ⟨HH.out.step r1 f1 (fun k hk => Or.inl hk), f1⟩
       clear r1 f1 c0))
  exact bodyPost_ret (results_tmp2 rfl _ _ _) rfl ⟨rfl, H2.out⟩

/-- takeIn where Receive takes it. -/
theorem takein_ok (B b kb RB : Nat) (s s1 : Sto) (last : Int) (ra : Option Addr) (rs : List (Int × Int)) (rc : Nat) (tx : ByteArray) (w : World) (h : RK B b kb RB w s last ra rs rc) (t : Int)
    (hr : Calls Tryz.prog 57 #[.pointer (some ⟨b, 0, none⟩), .string tx] w fun e w' => e = .returned (.tuple #[.int .i64 t, .int .i64 0]) ∧ ∃ sv lv, Rep B w' b 0 { s1 with sv := sv, lv := lv } ∧ Fr (foot b s) w w' ∧ (∀ k ∈ foot b { s1 with sv := sv, lv := lv }, k ∈ foot b s ∨ w.heap.size ≤ k))
    (hrs : Kp.okRs rs = true) (hlast : 0 ≤ last ∧ last ≤ 1000) (hl : s1.ss.length ≤ 12) (hv : s1.vol.length ≤ 16) (hu : (s1.ss.map Sn.guid).Nodup) (hin : ∀ x ∈ s1.ss, In64 x.guid) (htm : ∀ x ∈ s1.ss, 0 ≤ x.time ∧ x.time ≤ 1073741824) (hlg : s1.log.length ≤ 130000000000000) :
    Calls Tryz.prog 37 #[.pointer (some ⟨kb, 0, none⟩), .string tx] w fun e w' => e = .returned (.tuple #[.int .u8 71, .int .i64 t]) ∧ ∃ w1 sv lv, RK B b kb RB w1 { s1 with sv := sv, lv := lv } last ra rs rc ∧ Fr (foot b s) w w1 ∧ (∀ k ∈ foot b { s1 with sv := sv, lv := lv }, k ∈ foot b s ∨ w.heap.size ≤ k) ∧ ThPost B b kb RB w1 w' { s1 with sv := sv, lv := lv } last ra rs rc := by
  have c0 := h.kp.c0
  have HH : Hid (RK B b kb RB w s last ra rs rc) := h
  have HR : Hid (Calls Tryz.prog 57 #[.pointer (some ⟨b, 0, none⟩), .string tx] w fun e w' => e = .returned (.tuple #[.int .i64 t, .int .i64 0]) ∧ ∃ sv lv, Rep B w' b 0 { s1 with sv := sv, lv := lv } ∧ Fr (foot b s) w w' ∧ (∀ k ∈ foot b { s1 with sv := sv, lv := lv }, k ∈ foot b s ∨ w.heap.size ≤ k)) := hr
  have hg : ∀ (l : List Sn) (a : Int), 0 ≤ a ∧ a ≤ 1073741824 → (∀ x ∈ l, 0 ≤ x.time ∧ x.time ≤ 1073741824) → 0 ≤ l.foldl (fun m x => max m x.time) a ∧ l.foldl (fun m x => max m x.time) a ≤ 1073741824 := by
    intro l
    induction l with
    | nil => intro a ha _; exact ha
    | cons y l ih =>
      intro a ha hx
      refine ih (max a y.time) ?_ (fun x hx' => hx x (List.mem_cons_of_mem _ hx'))
      have := hx y List.mem_cons_self
      omega
  have hgt : 0 ≤ gts s1.ss ∧ gts s1.ss ≤ 1073741824 := hg s1.ss 0 (by omega) htm
  obtain ⟨gt, hgte⟩ : ∃ gt, gts s1.ss = gt := ⟨_, rfl⟩
  rw [hgte] at hgt
  have HG : Hid (∀ W sv lv, RK B b kb RB W { s1 with sv := sv, lv := lv } last ra rs rc → Calls Tryz.prog 58 #[.pointer (some ⟨kb, 0, none⟩)] W fun e w' => e = .returned (.int .i64 gt) ∧ Rep B w' b 0 { s1 with sv := sv, lv := lv } ∧ Fr (foot b { s1 with sv := sv, lv := lv }) W w') := fun W sv lv hW => by
    rw [← hgte]
    exact greatest_any B b kb _ last _ W hW.rep hl hW.kp
  have HT : Hid (∀ W sv lv, RK B b kb RB W { s1 with sv := sv, lv := lv } last ra rs rc → Calls Tryz.prog 40 #[.pointer (some ⟨kb, 0, none⟩), .int .i64 gt] W fun e w' => e = .returned (.tuple #[]) ∧ ThPost B b kb RB W w' { s1 with sv := sv, lv := lv } last ra rs rc) := fun W sv lv hW =>
    thin_any B b kb RB { s1 with sv := sv, lv := lv } last gt ra rs rc W hW.rep hW.kp hW.kn hW.ru hrs hlast hgt hl hv hu hin htm hlg
  clear h hr hg hgt hgte hrs hlast hl hv hu hin htm hlg
  go_enter Tryz.func37, Tryz.ntmps37
  go_wp2_with (first
    | (go_at_call 57; refine HR.out.mono ?_; rintro e w1 ⟨rfl, sv, lv, r1, f1, t1⟩
       have H1 : Hid (RK B b kb RB w1 { s1 with sv := sv, lv := lv } last ra rs rc ∧ Fr (foot b s) w w1 ∧ (∀ k ∈ foot b { s1 with sv := sv, lv := lv }, k ∈ foot b s ∨ w.heap.size ≤ k)) := ⟨HH.out.step r1 f1 t1, f1, t1⟩
       have H1d : Hid (RK B b kb RB w1.drew { s1 with sv := sv, lv := lv } last ra rs rc ∧ Fr (foot b s) w w1.drew ∧ (∀ k ∈ foot b { s1 with sv := sv, lv := lv }, k ∈ foot b s ∨ w.heap.size ≤ k)) := ⟨H1.out.1.same (Fr.refl _ _).drew, f1.drew, t1⟩
       clear r1 f1 t1 c0))
  go_region_held3 (fun _ => True) (exact trivial)
    (first
      | (go_at_call 40; refine (HT.out _ sv lv H2.out.1).mono ?_; rintro e w3 ⟨rfl, p3⟩; have H3 : Hid (ThPost B b kb RB w2 w3 { s1 with sv := sv, lv := lv } last ra rs rc) := p3; clear p3)
      | (go_at_call 58; refine (HG.out _ sv lv (by first | exact H1d.out.1 | exact H1.out.1)).mono ?_; rintro e w2 ⟨rfl, r2, f2⟩; have H2 : Hid (RK B b kb RB w2 { s1 with sv := sv, lv := lv } last ra rs rc ∧ Fr (foot b s) w w2 ∧ (∀ k ∈ foot b { s1 with sv := sv, lv := lv }, k ∈ foot b s ∨ w.heap.size ≤ k)) := (by first | exact ⟨H1d.out.1.step r2 f2 (fun k hk => Or.inl hk), H1d.out.2.1.trans f2 H1d.out.2.2, H1d.out.2.2⟩ | exact ⟨H1.out.1.step r2 f2 (fun k hk => Or.inl hk), H1.out.2.1.trans f2 H1.out.2.2, H1.out.2.2⟩); clear r2 f2))
  all_goals
    go_wp2
    exact bodyPost_ret (results_tmp2 rfl _ _ _) rfl ⟨rfl, w2, sv, lv, H2.out.1, H2.out.2.1, H2.out.2.2, H3.out⟩
end Go.Proofs.YthdhegmlknpllabGreatDoor

/-
  The walk of node's Replica.Take (21).
-/
namespace Go.Proofs.YthdhegmlknpllabGreatDoor
open Go.RowKit Go.Maps Go.MuLone

/-- A letter that is made in memory is none of a keeper's blocks. -/
theorem RK.letter {B b kb RB : Nat} {W : World} {s : Sto} {last : Int} {ra : Option Addr} {rs : List (Int × Int)} {rc ab : Nat} {c : Array Value} (h : RK B b kb RB W s last ra rs rc) (ha : W.heap[ab]? = some (.cells c 100 (0, 0))) (hk : kb ≠ ab) (i j : Nat) (v v' : Value) : RK B b kb RB ((W.setCell ⟨ab, i, none⟩ v).setCell ⟨ab, j, none⟩ v') s last ra rs rc := by
  have hf : Fr [ab] W ((W.setCell ⟨ab, i, none⟩ v).setCell ⟨ab, j, none⟩ v') := ((Fr.refl _ _).setCell _ (Or.inl (by simp))).setCell _ (Or.inl (by simp))
  have htf : ab ∉ foot b s := tag_foot h.rep ha (by decide)
  refine ⟨h.rep.kept hf (fun j hj hm => by simp at hm; subst hm; exact htf hj), h.kp.fr hf (by simpa using hk), h.kn, own_fr h.ru hf (fun j hj hm => ?_)⟩
  obtain ⟨_, cur, h4⟩ := own_tag h.ru hj
  simp at hm
  rw [hm, ha] at h4
  simp at h4

set_option maxRecDepth 100000 in
set_option maxHeartbeats 3200000 in
theorem rtake_ask (B b kb RB : Nat) (s : Sto) (last : Int) (ra : Option Addr) (rs : List (Int × Int)) (rc : Nat) (p : Nat) (num : Int) (w : World) (h : RK B b kb RB w s last ra rs rc) (hl : s.ss.length ≤ 12) (hp : p < 3) (hnum : 0 ≤ num ∧ num < 4294967296) :
    Calls Tryz.prog 21 #[.pointer (some ⟨kb, 0, none⟩), .string (ofL (lhead 65 p num))] w fun e w' => e = .returned (.string (ofL (lhead 72 p num ++ (n4 (lastG s.ss)).list'))) ∧ RK B b kb RB w' s last ra rs rc ∧ Fr (foot b s) w w' := by
  have HH : Hid (RK B b kb RB w s last ra rs rc) := h
  obtain ⟨la, hla⟩ : ∃ la, lastG s.ss = la := ⟨_, rfl⟩
  have HNw : Hid (∀ W, RK B b kb RB W s last ra rs rc → Calls Tryz.prog 36 #[.pointer (some ⟨kb, 0, none⟩)] W fun e w' => e = .returned (.int .i64 la) ∧ Rep B w' b 0 s ∧ Fr (foot b s) W w') := fun W hW => by
    rw [← hla]
    exact newest_any B b kb s last _ W hW.rep hl hW.kp
  rw [hla]
  obtain ⟨T, hT⟩ : ∃ T, ofL (lhead 65 p num) = T := ⟨_, rfl⟩
  have HPl : Hid (Calls Tryz.prog 35 #[.string T] w fun e w' => e = .returned (.tuple #[.agg #[.int .u8 65, .int .i64 p, .int .i64 num, .string ⟨#[]⟩, .int .i64 0], .bool true]) ∧ Fr [] w w') := by
    rw [← hT]
    exact pl_ask p num w hp hnum
  obtain ⟨T2, hT2⟩ : ∃ T2, ofL (lhead 72 p num ++ (n4 la).list') = T2 := ⟨_, rfl⟩
  have HTx : Hid (∀ W, Calls Tryz.prog 38 #[.agg #[.int .u8 72, .int .i64 p, .int .i64 num, .string ⟨#[]⟩, .int .i64 la]] W fun e w' => e = .returned (.string T2) ∧ Fr [] W w') := fun W => by
    rw [← hT2]
    exact text_has 72 p num ⟨#[]⟩ la W rfl rfl
  rw [hT, hT2]
  clear h hla hT hT2 hp hnum
  go_enter Tryz.func21, Tryz.ntmps21
  go_wp2_with (first
    | (go_at_call 38; refine (HTx.out _).mono ?_; rintro e w4 ⟨rfl, f4⟩
       have H4 : Hid (RK B b kb RB w4 s last ra rs rc ∧ Fr (foot b s) w w4) := ⟨(H3.out.1 0 4 _ _).same f4, (((H3.out.2.1.setCell _ (Or.inr H3.out.2.2)).setCell _ (Or.inr H3.out.2.2)).trans f4 (by simp))⟩
       clear f4)
    | (go_at_call 36; refine (HNw.out _ (H1.out.1.same (((Fr.refl _ _).alloc _).alloc _))).mono ?_; rintro e w3 ⟨rfl, r3, f3⟩
       have a3 : w3.heap[w1.heap.size + 1]? = some (.cells #[.int .u8 0, .int .i64 p, .int .i64 num, .string ⟨#[]⟩, .int .i64 0] 100 (0, 0)) := by
         have n2 := heap_alloc_new (w1.alloc (.cells #[.int .u8 65, .int .i64 p, .int .i64 num, .string ⟨#[]⟩, .int .i64 0] 100)) (.cells #[.int .u8 0, .int .i64 p, .int .i64 num, .string ⟨#[]⟩, .int .i64 0] 100)
         have hsz : (w1.alloc (.cells #[.int .u8 65, .int .i64 p, .int .i64 num, .string ⟨#[]⟩, .int .i64 0] 100)).heap.size = w1.heap.size + 1 := by simp
         rw [hsz] at n2
         exact (f3.block _ (Array.getElem?_eq_some_iff.1 n2).1 (tag_foot (H1.out.1.same (((Fr.refl _ _).alloc _).alloc _)).rep n2 (by decide))).trans n2
       have R3 := (H1.out.1.same (((Fr.refl _ _).alloc _).alloc _)).step r3 f3 (fun k hk => Or.inl hk)
       have hkn : kb ≠ w1.heap.size + 1 := fun e => by
         have := World.block_lt_of_cell? _ _ H1.out.1.kp.c0
         simp at this
         omega
       have hw1 := H1.out.2.size
       have H3 : Hid ((∀ i j v v', RK B b kb RB ((w3.setCell ⟨w1.heap.size + 1, i, none⟩ v).setCell ⟨w1.heap.size + 1, j, none⟩ v') s last ra rs rc) ∧ Fr (foot b s) w w3 ∧ w.heap.size ≤ w1.heap.size + 1) := ⟨fun i j v v' => R3.letter a3 hkn i j v v', ((H1.out.2.alloc _).alloc _).trans f3 (fun k hk => Or.inl hk), by omega⟩
       have q0 : w3.cell? ⟨w1.heap.size + 1, 0, none⟩ = some (.int .u8 0) := by rw [cell_of a3]; rfl
       have q1 : w3.cell? ⟨w1.heap.size + 1, 1, none⟩ = some (.int .i64 p) := by rw [cell_of a3]; rfl
       have q2 : w3.cell? ⟨w1.heap.size + 1, 2, none⟩ = some (.int .i64 num) := by rw [cell_of a3]; rfl
       have q3 : w3.cell? ⟨w1.heap.size + 1, 3, none⟩ = some (.string ⟨#[]⟩) := by rw [cell_of a3]; rfl
       have q4 : w3.cell? ⟨w1.heap.size + 1, 4, none⟩ = some (.int .i64 0) := by rw [cell_of a3]; rfl
       have z0 : w3.frozen? ⟨w1.heap.size + 1, 0, none⟩ = false := froz_of a3 _
       have z4 : w3.frozen? ⟨w1.heap.size + 1, 4, none⟩ = false := froz_of a3 _
       clear r3 f3 a3 R3 hkn hw1)
    | (go_at_call 35; refine HPl.out.mono ?_; rintro e w1 ⟨rfl, f1⟩
       have H1 : Hid (RK B b kb RB w1 s last ra rs rc ∧ Fr (foot b s) w w1) := ⟨HH.out.same f1, ((Fr.refl _ _).trans f1 (by simp))⟩
       clear f1))
  go_ret
  exact ⟨rfl, H4.out⟩

/-- What takeIn does, of any letter. -/
def TakesIn (B b kb RB : Nat) (s : Sto) (last : Int) (ra : Option Addr) (rs : List (Int × Int)) (rc : Nat) (tx : ByteArray) (kk : UInt8) (g : Int) (Q : Sto → Prop) : Prop :=
  ∀ W, RK B b kb RB W s last ra rs rc → Calls Tryz.prog 37 #[.pointer (some ⟨kb, 0, none⟩), .string tx] W fun e w' => e = .returned (.tuple #[.int .u8 (kk.toNat : Int), .int .i64 g]) ∧ ∃ s', RK B b kb RB w' s' last ra rs rc ∧ Fr (foot b s) W w' ∧ (∀ k ∈ foot b s', k ∈ foot b s ∨ W.heap.size ≤ k) ∧ Q s'

set_option maxRecDepth 100000 in
set_option maxHeartbeats 3200000 in
theorem rtake_data (B b kb RB : Nat) (s : Sto) (last : Int) (ra : Option Addr) (rs : List (Int × Int)) (rc : Nat) (p : Nat) (num : Int) (tx : List UInt8) (kk : UInt8) (g : Int) (Q : Sto → Prop) (w : World) (h : RK B b kb RB w s last ra rs rc) (hp : p < 3) (hnum : 0 ≤ num ∧ num < 4294967296) (htx : tx.length ≤ 900000) (hti : TakesIn B b kb RB s last ra rs rc (ofL tx) kk g Q) (hkk : kk = 71 ∨ kk = 72) :
    Calls Tryz.prog 21 #[.pointer (some ⟨kb, 0, none⟩), .string (ofL (lhead 68 p num ++ tx))] w fun e w' => e = .returned (.string (ofL (lhead kk p num ++ (n4 g).list'))) ∧ ∃ s', RK B b kb RB w' s' last ra rs rc ∧ Fr (foot b s) w w' ∧ (∀ k ∈ foot b s', k ∈ foot b s ∨ w.heap.size ≤ k) ∧ Q s' := by
  have HH : Hid (RK B b kb RB w s last ra rs rc) := h
  obtain ⟨T, hT⟩ : ∃ T, ofL (lhead 68 p num ++ tx) = T := ⟨_, rfl⟩
  obtain ⟨T1, hT1⟩ : ∃ T1, ofL tx = T1 := ⟨_, rfl⟩
  have HPl : Hid (Calls Tryz.prog 35 #[.string T] w fun e w' => e = .returned (.tuple #[.agg #[.int .u8 68, .int .i64 p, .int .i64 num, .string T1, .int .i64 0], .bool true]) ∧ Fr [] w w') := by
    rw [← hT, ← hT1]
    exact pl_data p num tx w hp hnum htx
  obtain ⟨T2, hT2⟩ : ∃ T2, ofL (lhead kk p num ++ (n4 g).list') = T2 := ⟨_, rfl⟩
  have HTx : Hid (∀ W, Calls Tryz.prog 38 #[.agg #[.int .u8 (kk.toNat : Int), .int .i64 p, .int .i64 num, .string ⟨#[]⟩, .int .i64 g]] W fun e w' => e = .returned (.string T2) ∧ Fr [] W w') := fun W => by
    rw [← hT2]
    rcases hkk with rfl | rfl
    · exact text_got 71 p num ⟨#[]⟩ g W rfl rfl rfl
    · exact text_has 72 p num ⟨#[]⟩ g W rfl rfl
  rw [hT1] at hti
  have HTi : Hid (TakesIn B b kb RB s last ra rs rc T1 kk g Q) := hti
  rw [hT, hT2]
  clear h hT hT1 hT2 hp hnum htx hti
  obtain ⟨kn, hkn⟩ : ∃ kn : Int, (kk.toNat : Int) = kn := ⟨_, rfl⟩
  have HKn : Hid ((kk.toNat : Int) = kn) := hkn
  rw [hkn] at HTx
  clear hkn hkk
  go_enter Tryz.func21, Tryz.ntmps21
  go_wp2_with (first
    | (go_at_call 38; refine (HTx.out _).mono ?_; rintro e w4 ⟨rfl, f4⟩
       have H4 : Hid (∃ s', RK B b kb RB w4 s' last ra rs rc ∧ Fr (foot b s) w w4 ∧ (∀ k ∈ foot b s', k ∈ foot b s ∨ w.heap.size ≤ k) ∧ Q s') := by
         obtain ⟨s', g1, g2, g3, g4, g5⟩ := H3.out
         exact ⟨s', (g1 0 4 _ _).same f4, (((g2.setCell _ (Or.inr g3)).setCell _ (Or.inr g3)).trans f4 (by simp)), g4, g5⟩
       clear f4)
    | (go_at_call 37; refine (HTi.out _ (H1.out.1.same (((Fr.refl _ _).alloc _).alloc _))).mono ?_; rintro e w3 ⟨rfl, s', r3, f3, t3, q3⟩
       rw [HKn.out]
       have a3 : w3.heap[w1.heap.size + 1]? = some (.cells #[.int .u8 0, .int .i64 p, .int .i64 num, .string ⟨#[]⟩, .int .i64 0] 100 (0, 0)) := by
         have n2 := heap_alloc_new (w1.alloc (.cells #[.int .u8 68, .int .i64 p, .int .i64 num, .string T1, .int .i64 0] 100)) (.cells #[.int .u8 0, .int .i64 p, .int .i64 num, .string ⟨#[]⟩, .int .i64 0] 100)
         have hsz : (w1.alloc (.cells #[.int .u8 68, .int .i64 p, .int .i64 num, .string T1, .int .i64 0] 100)).heap.size = w1.heap.size + 1 := by simp
         rw [hsz] at n2
         exact (f3.block _ (Array.getElem?_eq_some_iff.1 n2).1 (tag_foot (H1.out.1.same (((Fr.refl _ _).alloc _).alloc _)).rep n2 (by decide))).trans n2
       have hkn : kb ≠ w1.heap.size + 1 := fun e => by
         have := World.block_lt_of_cell? _ _ H1.out.1.kp.c0
         simp at this
         omega
       have hw1 := H1.out.2.size
       have H3 : Hid (∃ s', (∀ i j v v', RK B b kb RB ((w3.setCell ⟨w1.heap.size + 1, i, none⟩ v).setCell ⟨w1.heap.size + 1, j, none⟩ v') s' last ra rs rc) ∧ Fr (foot b s) w w3 ∧ w.heap.size ≤ w1.heap.size + 1 ∧ (∀ k ∈ foot b s', k ∈ foot b s ∨ w.heap.size ≤ k) ∧ Q s') := ⟨s', fun i j v v' => r3.letter a3 hkn i j v v', ((H1.out.2.alloc _).alloc _).trans f3 (fun k hk => Or.inl hk), by omega, fun k hk => by
         rcases t3 k hk with h5 | h5
         · exact Or.inl h5
         · simp at h5
           exact Or.inr (by omega), q3⟩
       have q0 : w3.cell? ⟨w1.heap.size + 1, 0, none⟩ = some (.int .u8 0) := by rw [cell_of a3]; rfl
       have q1 : w3.cell? ⟨w1.heap.size + 1, 1, none⟩ = some (.int .i64 p) := by rw [cell_of a3]; rfl
       have q2 : w3.cell? ⟨w1.heap.size + 1, 2, none⟩ = some (.int .i64 num) := by rw [cell_of a3]; rfl
       have qq3 : w3.cell? ⟨w1.heap.size + 1, 3, none⟩ = some (.string ⟨#[]⟩) := by rw [cell_of a3]; rfl
       have q4 : w3.cell? ⟨w1.heap.size + 1, 4, none⟩ = some (.int .i64 0) := by rw [cell_of a3]; rfl
       have z0 : w3.frozen? ⟨w1.heap.size + 1, 0, none⟩ = false := froz_of a3 _
       have z4 : w3.frozen? ⟨w1.heap.size + 1, 4, none⟩ = false := froz_of a3 _
       clear r3 f3 a3 hkn hw1 t3 q3 s')
    | (go_at_call 35; refine HPl.out.mono ?_; rintro e w1 ⟨rfl, f1⟩
       have H1 : Hid (RK B b kb RB w1 s last ra rs rc ∧ Fr (foot b s) w w1) := ⟨HH.out.same f1, ((Fr.refl _ _).trans f1 (by simp))⟩
       clear f1))
  go_ret
  exact ⟨rfl, H4.out⟩
end Go.Proofs.YthdhegmlknpllabGreatDoor

/-
  What a replica's takeIn does, in each case.
-/
namespace Go.Proofs.YthdhegmlknpllabGreatDoor
open Go.RowKit Go.Maps Go.MuLone

/-- A replica's store: what always holds of it; q letters were taken in. -/
structure RP (s : Sto) (n q : Nat) : Prop where
  vol : s.vol.length = n
  len : s.ss.length < 12
  nd : (s.ss.map Sn.guid).Nodup
  gs : ∀ x ∈ s.ss, 1 ≤ x.guid ∧ x.guid ≤ 999999999
  tm : ∀ x ∈ s.ss, 0 ≤ x.time ∧ x.time ≤ 1073741824
  ho : ∀ x ∈ s.ss, x.holds = 0
  ms : s.ms = []
  cm : 0 ≤ s.came ∧ s.came ≤ q
  cnt : s.cnt ≤ 16 * q
  lg : s.log.length ≤ 1000 * q
theorem RP.mono {s : Sto} {n q : Nat} (h : RP s n q) : RP s n (q + 1) :=
  ⟨h.vol, h.len, h.nd, h.gs, h.tm, h.ho, h.ms, by have := h.cm; omega, by have := h.cnt; omega, by have := h.lg; omega⟩

/-- What a stream that is taken in makes of a replica's store. -/
structure RQ (s s' : Sto) (n q : Nat) (f t m : Int) (l : List (Int × B4)) : Prop where
  rp : RP s' n (q + 1)
  lst : lastG s'.ss = t
  ss : ∃ Z, s'.ss = left s.ss Z ++ [⟨t, m, 0, s.came + 1⟩]
  th : ∀ x ∈ s'.ss, ∀ i : Nat, i < n → s'.th x.guid (i : Int) = if x.guid = t then (rvol s f l).getD i Ct.zero else s.th x.guid (i : Int)

theorem ti_dup (B b kb RB : Nat) (s : Sto) (last : Int) (ra : Option Addr) (rs : List (Int × Int)) (rc n q : Nat) (P : RP s n q) (f t m : Int) (l : List (Int × B4)) (hM : MayB f t m n l) (hin : ∃ x ∈ s.ss, x.guid = t) :
    TakesIn B b kb RB s last ra rs rc (streamT f t m n l) 71 t (fun s' => s' = s) := fun W hW => by
  obtain ⟨j, _, hj, _⟩ := fi_some (p := fun y : Sn => y.guid == t) s.ss 0 (by obtain ⟨x, hx, e⟩ := hin; exact ⟨x, hx, by simp [e]⟩)
  rw [Nat.zero_add] at hj
  refine (takein_dup B b kb RB s last ra rs rc _ W hW f t m n l (fun W' => parse_stream f t m n l hM W') (receive_dup B b s _ W hW.rep f t m l j (fun W' => by rw [P.vol]; exact parse_stream f t m n l hM W') (by have := P.len; omega) hj)).mono ?_
  rintro e w' ⟨rfl, r, f⟩
  exact ⟨rfl, s, r, f, fun k hk => Or.inl hk, rfl⟩

theorem ti_base (B b kb RB : Nat) (s : Sto) (last : Int) (ra : Option Addr) (rs : List (Int × Int)) (rc n q : Nat) (P : RP s n q) (f t m : Int) (l : List (Int × B4)) (hM : MayB f t m n l) (hin : ¬ ∃ x ∈ s.ss, x.guid = t) (hb : f ≠ lastG s.ss) :
    TakesIn B b kb RB s last ra rs rc (streamT f t m n l) 72 (lastG s.ss) (fun s' => s' = s) := fun W hW => by
  have hl : s.ss.length ≤ 12 := by have := P.len; omega
  refine (takein_err B b kb RB s last ra rs rc _ W hW hl (receive_err B b s _ W hW.rep f t m l 6 rfl (fun W' => by rw [P.vol]; exact parse_stream f t m n l hM W') (fun W' v hW' hv => accepts_base B b 1 s f t m v W' hW' hl (by rw [P.ms]; simp) hv (fi_none _ _ (fun x hx => ?_)) (by rw [P.ms]; rfl) hb))).mono ?_
  · simp only [beq_eq_false_iff_ne, ne_eq]
    exact fun e => hin ⟨x, hx, e⟩
  · rintro e w' ⟨rfl, r, f⟩
    exact ⟨rfl, s, r, f, fun k hk => Or.inl hk, rfl⟩

theorem left_append (ss : List Sn) (x : Sn) (Z : List Int) (h : x.guid ∉ Z) : left (ss ++ [x]) Z = left ss Z ++ [x] := by
  unfold left
  rw [List.filter_append]
  congr 1
  rw [List.filter_eq_self]
  intro y hy
  simp at hy
  subst hy
  simp only [isG, Bool.not_eq_true', List.any_eq_false, beq_iff_eq]
  intro z hz e
  exact h (e ▸ hz)

theorem ti_ok (B b kb RB : Nat) (s : Sto) (last : Int) (ra : Option Addr) (rs : List (Int × Int)) (rc n q : Nat) (P : RP s n q) (f t m : Int) (l : List (Int × B4)) (hM : MayB f t m n l) (hin : ¬ ∃ x ∈ s.ss, x.guid = t) (hb : f = lastG s.ss) (hq : q ≤ 1000000) (hrs : Kp.okRs rs = true) (hlast : 0 ≤ last ∧ last ≤ 1000) (hlk : ∀ k (h : k < l.length), 0 ≤ l[k].1 ∧ l[k].1 < n) :
    TakesIn B b kb RB s last ra rs rc (streamT f t m n l) 71 t (fun s' => RQ s s' n q f t m l) := fun W hW => by
  have hlen := hM.len
  have hnb := hM.cnb
  have hct := hM.ct
  have hsz := streamT_size f t m n l
  have hpl := P.len
  have hcm := P.cm
  have hcn := P.cnt
  have hlg := P.lg
  have hlg1 : (s.recv f t m l (streamT f t m n l) (.slice none 0 0) (.slice none 0 0)).log.length ≤ 1000 * q + 200 := by
    simp only [Sto.recv, Sto.noted, Sto.add, List.length_append, entry, List.length_cons, Array.length_toList]
    have : (streamT f t m n l).data.size = (streamT f t m n l).size := rfl
    omega
  have hgn : ∀ x ∈ s.ss, x.guid ≠ t := fun x hx e => hin ⟨x, hx, e⟩
  have hvl : (rvol s f l).length = n := by
    unfold rvol
    rw [fv_len, vk_len _ _ _ (Nat.le_refl _), P.vol]
  have hss : ∀ sv lv, (s.recv f t m l (streamT f t m n l) sv lv).ss = s.ss ++ [⟨t, m, 0, s.came + 1⟩] := fun _ _ => rfl
  have hmem : ∀ x ∈ s.ss ++ [(⟨t, m, 0, s.came + 1⟩ : Sn)], 1 ≤ x.guid ∧ x.guid ≤ 999999999 ∧ 0 ≤ x.time ∧ x.time ≤ 1073741824 ∧ x.holds = 0 := fun x hx => by
    rcases List.mem_append.1 hx with h1 | h1
    · have := P.gs x h1
      have := P.tm x h1
      exact ⟨by omega, by omega, by omega, by omega, P.ho x h1⟩
    · simp at h1
      subst h1
      have := hM.cm
      exact ⟨by simp; omega, by simp; omega, by simp; omega, by simp; omega, rfl⟩
  have hnd : ((s.ss ++ [(⟨t, m, 0, s.came + 1⟩ : Sn)]).map Sn.guid).Nodup := by
    rw [List.map_append, List.nodup_append]
    refine ⟨P.nd, by simp, fun a ha c hc => ?_⟩
    obtain ⟨x, hx, rfl⟩ := List.mem_map.1 ha
    simp at hc
    subst hc
    exact hgn x hx
  have hrc := receive_ok B b s (streamT f t m n l) W hW.rep f t m l (fun W' => by rw [P.vol]; exact parse_stream f t m n l hM W') (by omega) (by rw [P.ms]; simp) (fi_none _ _ (fun x hx => by simpa using hgn x hx)) (by rw [P.ms]; rfl) hb (fun k hk => by rw [P.vol]; exact hlk k hk) hlen (by have := hM.cf; exact ⟨by omega, by omega⟩) ⟨by omega, by omega⟩ (by omega) (by rw [P.vol]; omega) (by rw [P.vol]; unfold maxLen; omega) (by omega) (by omega)
  refine (takein_ok B b kb RB s (s.recv f t m l (streamT f t m n l) (.slice none 0 0) (.slice none 0 0)) last ra rs rc _ W hW t (hrc.mono ?_) hrs hlast (by rw [hss]; simp; omega) (by show (rvol s f l).length ≤ 16; omega) (by rw [hss]; exact hnd) (fun x hx => by rw [hss] at hx; have := hmem x hx; exact ⟨by omega, by omega⟩) (fun x hx => by rw [hss] at hx; have := hmem x hx; exact ⟨by omega, by omega⟩) (by omega)).mono ?_
  · rintro e w' ⟨rfl, sv, lv, r', f', a1, a2⟩
    refine ⟨rfl, sv, lv, r', f', fun j hj => ?_⟩
    simp only [foot, Sto.recv, Sto.noted, Sto.add, List.mem_append, List.mem_cons, List.not_mem_nil, or_false, Option.mem_toList] at hj ⊢
    rcases hj with ((h1 | h1) | h1) | h1
    · exact Or.inl (Or.inl (Or.inl (Or.inl h1)))
    · exact (a1 j h1).imp_left (fun h2 => Or.inl (Or.inl (Or.inr h2)))
    · exact Or.inl (Or.inl (Or.inr h1))
    · exact (a2 j h1).imp_left Or.inr
  · rintro e w' ⟨rfl, w1, sv, lv, rk1, f1, t1, hth⟩
    have hs1 : ({ s.recv f t m l (streamT f t m n l) (.slice none 0 0) (.slice none 0 0) with sv := sv, lv := lv } : Sto).ss = s.ss ++ [⟨t, m, 0, s.came + 1⟩] := rfl
    obtain ⟨s2, Z, rk2, f2, t2, hz, hzl, hroom⟩ := hth.out (by rw [hs1]; simp; omega) (by
      rw [hs1]
      intro h12
      simp at h12
      have h0 : 0 < s.ss.length := by omega
      refine ⟨s.ss[0], ?_, by rw [P.ho _ (List.getElem_mem h0)]; decide⟩
      simp)
    rw [hs1] at hz
    have hZ : t ∉ Z := fun hm => by
      obtain ⟨x, hx, e⟩ := hz t hm
      simp at hx
      exact hgn x hx e
    have hs2 : s2.ss = left s.ss Z ++ [⟨t, m, 0, s.came + 1⟩] := by
      rw [t2.ss, hs1]
      exact left_append _ _ _ hZ
    have hsub : ∀ x ∈ s2.ss, x ∈ s.ss ++ [(⟨t, m, 0, s.came + 1⟩ : Sn)] := fun x hx => by
      rw [t2.ss, hs1] at hx
      unfold left at hx
      exact (List.mem_filter.1 hx).1
    have hw1 := f1.size
    refine ⟨rfl, s2, rk2, f1.trans f2 t1, fun k hk => ?_, ⟨⟨?_, hroom, ?_, ?_, ?_, ?_, ?_, ?_, ?_, ?_⟩, ?_, ⟨Z, hs2⟩, ?_⟩⟩
    · rcases t2.ft k hk with h3 | h3
      · exact t1 k h3
      · exact Or.inr (by omega)
    · rw [t2.vol]; exact hvl
    · rw [t2.ss, hs1]; exact left_nodup hnd Z
    · exact fun x hx => by have := hmem x (hsub x hx); exact ⟨this.1, this.2.1⟩
    · exact fun x hx => by have := hmem x (hsub x hx); exact ⟨this.2.2.1, this.2.2.2.1⟩
    · exact fun x hx => (hmem x (hsub x hx)).2.2.2.2
    · rw [t2.ms]; exact P.ms
    · rw [t2.cm]
      show 0 ≤ s.came + 1 ∧ s.came + 1 ≤ _
      omega
    · rw [t2.cnt]
      show s.cnt + (rvol s f l).length ≤ _
      omega
    · have h5 := t2.lg
      have h6 : ({ s.recv f t m l (streamT f t m n l) (.slice none 0 0) (.slice none 0 0) with sv := sv, lv := lv } : Sto).log.length = (s.recv f t m l (streamT f t m n l) (.slice none 0 0) (.slice none 0 0)).log.length := rfl
      rw [h6] at h5
      omega
    · rw [hs2]
      simp [lastG]
    · intro x hx i hi
      have hxz : x.guid ∉ Z := fun hm => by
        rw [t2.ss] at hx
        unfold left at hx
        have := (List.mem_filter.1 hx).2
        simp only [isG, Bool.not_eq_true', List.any_eq_false, beq_iff_eq] at this
        exact this x.guid hm rfl
      rw [t2.th x.guid i hxz]
      show (if x.guid = t ∧ 0 ≤ (i : Int) ∧ (i : Int) < (rvol s f l).length then (rvol s f l).getD (i : Int).toNat Ct.zero else s.th x.guid i) = _
      rw [hvl]
      by_cases hxt : x.guid = t
      · rw [if_pos ⟨hxt, by omega, by omega⟩, if_pos hxt]
        rfl
      · rw [if_neg (fun h => hxt h.1), if_neg hxt]
end Go.Proofs.YthdhegmlknpllabGreatDoor

/-
  The walks of node's newKeeper (34) and NewReplica (19).
-/
namespace Go.Proofs.YthdhegmlknpllabGreatDoor
open Go.RowKit Go.Maps Go.MuLone

/-- Parse of a grid: its rules. -/
def ParsesTo (t : ByteArray) (rs : List (Int × Int)) : Prop :=
  ∀ W, Calls Tryz.prog 50 #[.string t] W fun e w' => ∃ v, e = .returned (.tuple #[v, .int .i64 0]) ∧ w'.ownsRow W.heap.size 158 2 v rs.length (rlC rs) ∧ Fr [] W w'

set_option maxRecDepth 100000 in
set_option maxHeartbeats 3200000 in
theorem newKeeper_ok (id : Int) (n : Nat) (t : ByteArray) (rs : List (Int × Int)) (last : Int) (w : World) (h1 : 1 ≤ id ∧ id ≤ 999) (h2 : 1 ≤ n ∧ n ≤ 16) (hla : 1 ≤ last ∧ last ≤ 12) (hp : ParsesTo t rs) :
    Calls Tryz.prog 34 #[.int .i64 id, .int .i64 n, .string t, .int .i64 last] w fun e w' => ∃ b vb mb lv ra rc, e = .returned (.tuple #[.agg #[.pointer (some ⟨b, 0, none⟩), .int .i64 last, .slice ra rs.length rc], .int .i64 0]) ∧ Rep w.heap.size w' b 0 ((Sto.fresh id n vb mb).noted 78 (ntext id n) lv) ∧ w'.ownsRow w.heap.size 158 2 (.slice ra rs.length rc) rs.length (rlC rs) ∧ Fr [] w w' := by
  obtain ⟨w0, hw0⟩ : ∃ w0, w.alloc (.cells #[.pointer none, .int .i64 0, .slice none 0 0] 70) = w0 := ⟨_, rfl⟩
  obtain ⟨rb, hrb⟩ : ∃ rb, w.heap.size = rb := ⟨_, rfl⟩
  have n0 : w0.heap[rb]? = some (.cells #[.pointer none, .int .i64 0, .slice none 0 0] 70 (0, 0)) := by rw [← hw0, ← hrb]; exact heap_alloc_new w _
  have HNw : Hid (Calls Tryz.prog 49 #[.int .i64 id, .int .i64 n] w0 fun e w' => ∃ b vb mb lv, e = .returned (.tuple #[.pointer (some ⟨b, 0, none⟩), .int .i64 0]) ∧ Rep w0.heap.size w' b 0 ((Sto.fresh id n vb mb).noted 78 (ntext id n) lv) ∧ Fr [] w0 w') := new_ok id n w0 h1 h2
  have H0 : Hid (Fr [] w w0 ∧ w0.heap[rb]? = some (.cells #[.pointer none, .int .i64 0, .slice none 0 0] 70 (0, 0)) ∧ w.heap.size = rb ∧ w0.heap.size = rb + 1) := ⟨by rw [← hw0]; exact (Fr.refl _ _).alloc _, n0, hrb, by rw [← hw0, ← hrb]; simp⟩
  have HP : Hid (ParsesTo t rs) := hp
  have l1 : ¬ last < 1 := by omega
  have l2 : ¬ 12 < last := by omega
  have hw0' := hw0
  rw [hrb]
  clear h1 h2 hp hw0 n0
  go_enter Tryz.func34, Tryz.ntmps34
  go_wp2_with (first
    | (go_at_call 50; refine (HP.out _).mono ?_; rintro e w2 ⟨v, rfl, o2, f2⟩
       obtain ⟨ra, rc, hv⟩ := own_shape o2
       subst hv
       have n2 : w2.heap[rb]? = some (.cells #[.pointer none, .int .i64 0, .slice none 0 0] 70 (0, 0)) := by
         have f3 := H1.out.2.trans f2 (by simp)
         rw [f3.block rb (Array.getElem?_eq_some_iff.1 H0.out.2.1).1 (by simp)]
         exact H0.out.2.1
       have q0 : w2.cell? ⟨rb, 0, none⟩ = some (.pointer none) := by rw [cell_of n2]; rfl
       have q1 : w2.cell? ⟨rb, 1, none⟩ = some (.int .i64 0) := by rw [cell_of n2]; rfl
       have q2 : w2.cell? ⟨rb, 2, none⟩ = some (.slice none 0 0) := by rw [cell_of n2]; rfl
       have z0 : w2.frozen? ⟨rb, 0, none⟩ = false := froz_of n2 _
       have z1 : w2.frozen? ⟨rb, 1, none⟩ = false := froz_of n2 _
       have z2 : w2.frozen? ⟨rb, 2, none⟩ = false := froz_of n2 _
       have H2 : Hid (Rep w0.heap.size w2 b 0 ((Sto.fresh id n vb mb).noted 78 (ntext id n) lv) ∧ w2.ownsRow w1.heap.size 158 2 (.slice ra rs.length rc) rs.length (rlC rs) ∧ Fr [] w0 w2 ∧ w0.heap.size ≤ w1.heap.size ∧ w2.heap[rb]? = some (.cells #[.pointer none, .int .i64 0, .slice none 0 0] 70 (0, 0))) := ⟨H1.out.1.kept0 f2, o2, H1.out.2.trans f2 (by simp), H1.out.2.size, n2⟩
       clear o2 f2 n2)
    | (go_at_call 49; refine HNw.out.mono ?_; rintro e w1 ⟨b, vb, mb, lv, rfl, r1, f1⟩
       have H1 : Hid (Rep w0.heap.size w1 b 0 ((Sto.fresh id n vb mb).noted 78 (ntext id n) lv) ∧ Fr [] w0 w1) := ⟨r1, f1⟩
       clear r1 f1))
  have hf3 : Fr [rb] w2 (((w2.setCell ⟨rb, 0, none⟩ (.pointer (some ⟨b, 0, none⟩))).setCell ⟨rb, 1, none⟩ (.int .i64 last)).setCell ⟨rb, 2, none⟩ (.slice ra rs.length rc)) := (((Fr.refl _ _).setCell _ (Or.inl (by simp))).setCell _ (Or.inl (by simp))).setCell _ (Or.inl (by simp))
  have hrl : rb < w0.heap.size := by rw [H0.out.2.2.2]; omega
  refine bodyPost_ret (v := .tuple #[.agg #[.pointer (some ⟨b, 0, none⟩), .int .i64 last, .slice ra rs.length rc], .int .i64 0]) ?_ rfl ⟨b, vb, mb, lv, ra, rc, rfl, ?_, ?_, ?_⟩
  · rw [results_cell_tmp rfl]
    go_simp
  · refine Rep.base (H2.out.1.kept hf3 (fun k hk hm => ?_)) (Nat.le_of_lt hrl)
    simp at hm
    have := (H2.out.1.lt k hk).1
    omega
  · refine Kp.own_base (own_fr H2.out.2.1 hf3 (fun k hk hm => ?_)) (by have := H2.out.2.2.2.1; omega)
    simp at hm
    have := (own_tag H2.out.2.1 hk).1
    have := H2.out.2.2.2.1
    omega
  · have hbw : w.heap.size ≤ rb := Nat.le_of_eq H0.out.2.2.1
    exact (((H0.out.1.trans H2.out.2.2.1 (by simp)).setCell _ (Or.inr hbw)).setCell _ (Or.inr hbw)).setCell _ (Or.inr hbw)

/-- A store that is new. -/
def newS (id : Int) (n vb mb : Nat) (lv : Value) : Sto := (Sto.fresh id n vb mb).noted 78 (ntext id n) lv

set_option maxRecDepth 100000 in
set_option maxHeartbeats 3200000 in
theorem newReplica_ok (id : Int) (n : Nat) (t : ByteArray) (rs : List (Int × Int)) (last : Int) (w : World) (h1 : 1 ≤ id ∧ id ≤ 999) (h2 : 1 ≤ n ∧ n ≤ 16) (hla : 1 ≤ last ∧ last ≤ 12) (hp : ParsesTo t rs) :
    Calls Tryz.prog 19 #[.int .i64 id, .int .i64 n, .string t, .int .i64 last] w fun e w' => ∃ b kb vb mb lv ra rc, e = .returned (.tuple #[.pointer (some ⟨kb, 0, none⟩), .int .i64 0]) ∧ RK w.heap.size b kb w.heap.size w' (newS id n vb mb lv) last ra rs rc ∧ w.heap.size ≤ kb ∧ Fr [] w w' := by
  have HK : Hid (Calls Tryz.prog 34 #[.int .i64 id, .int .i64 n, .string t, .int .i64 last] w fun e w' => ∃ b vb mb lv ra rc, e = .returned (.tuple #[.agg #[.pointer (some ⟨b, 0, none⟩), .int .i64 last, .slice ra rs.length rc], .int .i64 0]) ∧ Rep w.heap.size w' b 0 ((Sto.fresh id n vb mb).noted 78 (ntext id n) lv) ∧ w'.ownsRow w.heap.size 158 2 (.slice ra rs.length rc) rs.length (rlC rs) ∧ Fr [] w w') := newKeeper_ok id n t rs last w h1 h2 hla hp
  clear h1 h2 hla hp
  go_enter Tryz.func19, Tryz.ntmps19
  go_wp2_with (first
    | (go_at_call 34; refine HK.out.mono ?_; rintro e w1 ⟨b, vb, mb, lv, ra, rc, rfl, r1, o1, f1⟩
       have H1 : Hid (Rep w.heap.size w1 b 0 (newS id n vb mb lv) ∧ w1.ownsRow w.heap.size 158 2 (.slice ra rs.length rc) rs.length (rlC rs) ∧ Fr [] w w1) := ⟨r1, o1, f1⟩
       clear r1 o1 f1))
  have f2 : Fr [] w1 ((w1.alloc (.cells #[.pointer (some ⟨b, 0, none⟩), .int .i64 last, .slice ra rs.length rc] 70)).alloc (.cells #[.pointer (some ⟨b, 0, none⟩), .int .i64 last, .slice ra rs.length rc] 98)) := ((Fr.refl _ _).alloc _).alloc _
  have n2 := heap_alloc_new (w1.alloc (.cells #[.pointer (some ⟨b, 0, none⟩), .int .i64 last, .slice ra rs.length rc] 70)) (.cells #[.pointer (some ⟨b, 0, none⟩), .int .i64 last, .slice ra rs.length rc] 98)
  have hsz : (w1.alloc (.cells #[.pointer (some ⟨b, 0, none⟩), .int .i64 last, .slice ra rs.length rc] 70)).heap.size = w1.heap.size + 1 := by simp
  rw [hsz] at n2
  have hw := H1.out.2.2.size
  refine bodyPost_ret (results_tmp2 rfl _ _ _) rfl ⟨b, w1.heap.size + 1, vb, mb, lv, ra, rc, rfl, ⟨H1.out.1.kept0 f2, ⟨?_, ?_, ?_⟩, fun hm => ?_, own_fr' H1.out.2.1 f2⟩, by omega, H1.out.2.2.trans f2 (by simp)⟩
  · rw [cell_of n2]; rfl
  · rw [cell_of n2]; rfl
  · rw [cell_of n2]; rfl
  · have := (H1.out.1.lt _ hm).2
    omega
end Go.Proofs.YthdhegmlknpllabGreatDoor
