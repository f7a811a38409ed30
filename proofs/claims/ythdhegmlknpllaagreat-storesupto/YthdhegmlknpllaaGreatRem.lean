/-
  The walks of remove (49), slices.Index (74), slices.Contains (48).
-/
import Derived.Test.YthdhegmlknpllaaGreatDel
namespace Go.Proofs.YthdhegmlknpllaaGreat
open Go.RowKit Go.Maps Go.MuLone

def tm (zs : List Int) (i : Nat) : Int := zs[i]?.getD 0
def Bnd (zs : List Int) : Prop := ∀ i, i < zs.length → In64 (tm zs i)

/-- A list of numbers. -/
def RowG (w : World) (ao : Option Addr) (zs : List Int) (cap : Nat) : Prop :=
  zs.length ≤ cap ∧ (0 < zs.length → ∃ b off, ao = some ⟨b, off, none⟩ ∧ ∀ i, i < zs.length → w.cell? ⟨b, off + i, none⟩ = some (.int .i64 (tm zs i)))
theorem RowG.take {w : World} {ao : Option Addr} {zs : List Int} {cap : Nat} (h : RowG w ao zs cap) (k : Nat) (hk : k ≤ zs.length) : RowG w ao (zs.take k) cap := by
  have hl : (zs.take k).length = k := by rw [List.length_take]; omega
  refine ⟨by have := h.1; omega, fun h0 => ?_⟩
  obtain ⟨b, off, e, hc⟩ := h.2 (by omega)
  refine ⟨b, off, e, fun i hi => ?_⟩
  rw [hc i (by omega)]
  congr 2
  rw [hl] at hi
  simp [tm, hi]

set_option maxHeartbeats 1000000 in
theorem index63 (ao : Option Addr) (zs : List Int) (cap : Nat) (g : Int) (w : World) (h : RowG w ao zs cap) (hl : zs.length ≤ 2000000) :
    Calls Tryz.prog 119 #[.slice ao zs.length cap, .int .i64 g] w fun e w' => e = .returned (.int .i64 (fi (fun x : Int => g == x) 0 zs)) ∧ w' = w := by
  obtain ⟨r, hr⟩ : ∃ r, fi (fun x : Int => g == x) 0 zs = r := ⟨_, rfl⟩
  rw [hr]
  have HR : Hid (fi (fun x : Int => g == x) 0 (zs.drop 0) = r) := hr
  have HO : Hid (RowG w ao zs cap) := h
  clear hr h
  go_enter Tryz.func119, Tryz.ntmps119
  go_wp2
  go_loop [8] (fun i => ∃ k : Nat, k ≤ zs.length ∧ i = .int .i64 k ∧ Hid (fi (fun x : Int => g == x) k (zs.drop k) = r)) (fun i => zs.length - (intOf i).toNat)
  case atStart => exact ⟨0, Nat.zero_le _, rfl, HR⟩
  case round =>
    obtain ⟨k, hk, rfl, HK⟩ := hrel
    clear HR
    by_cases hlt : k < zs.length
    · have H := HK.out
      rw [List.drop_eq_getElem_cons hlt, fi] at H
      obtain ⟨rb, off, hao, hc⟩ := HO.out.2 (by omega)
      subst hao
      have d1 := hc k hlt
      have hcap := HO.out.1
      have ht : tm zs k = zs[k] := by simp [tm, hlt]
      rw [ht] at d1
      obtain ⟨x, hx⟩ : ∃ x, zs[k] = x := ⟨_, rfl⟩
      rw [hx] at d1 H
      have hltz : (k : Int) < (zs.length : Int) := by omega
      clear HK hc hx ht
      cases hp : (g == x)
      · have HH : Hid (fi (fun x : Int => g == x) (k + 1) (zs.drop (k + 1)) = r) := by show _ = _; simpa [hp] using H
        clear H
        go_wp2
        go_round
        case rel => exact ⟨k + 1, by omega, by go_num, HH⟩
        case measure => simp [intOf]; omega
      · have HH : Hid ((k : Int) = r) := by show _ = _; simpa [hp] using H
        clear H
        go_wp2
        go_ret
        exact ⟨ret_int HH.out, rfl⟩
    · have hkk : k = zs.length := by omega
      have HH : Hid ((-1 : Int) = r) := by have := HK.out; rw [hkk] at this; show _ = _; simpa [fi] using this
      clear HK
      subst hkk
      go_wp2
      go_ret
      exact ⟨ret_int HH.out, rfl⟩

theorem fi_dec {α : Type} (p : α → Bool) (l : List α) : decide (0 ≤ fi p 0 l) = l.any p := by
  by_cases h : ∃ x ∈ l, p x = true
  · obtain ⟨j, hj, e, _⟩ := fi_some l 0 h
    rw [e, List.any_eq_true.2 h]
    simp
  · rw [fi_none l 0 (fun x hx => by cases hp : p x; rfl; exact absurd ⟨x, hx, hp⟩ h)]
    have : l.any p = false := by
      rw [List.any_eq_false]
      intro x hx hp
      exact h ⟨x, hx, hp⟩
    rw [this]
    decide

set_option maxHeartbeats 400000 in
theorem contains48 (ao : Option Addr) (zs : List Int) (cap : Nat) (g : Int) (w : World) (h : RowG w ao zs cap) (hl : zs.length ≤ 2000000) :
    Calls Tryz.prog 101 #[.slice ao zs.length cap, .int .i64 g] w fun e w' => e = .returned (.bool (zs.any fun x => g == x)) ∧ w' = w := by
  have H := index63 ao zs cap g w h hl
  have hd := fi_dec (fun x : Int => g == x) zs
  rw [← hd]
  obtain ⟨r, hr⟩ : ∃ r, fi (fun x : Int => g == x) 0 zs = r := ⟨_, rfl⟩
  rw [hr] at H ⊢
  clear h hd hr
  go_enter Tryz.func101, Tryz.ntmps101
  go_wp2_with (go_at_call 119; refine H.mono ?_; rintro e w' ⟨rfl, hw'⟩; have hw' := hw'.symm; subst hw')
  go_ret
  exact ⟨ret_bool (by simp), rfl⟩

/-- An entry of the map is deleted. -/
theorem Rep.drop {B : Nat} {w : World} {b : Nat} {q : Int} {s : Sto} (h : Rep B w b q s) {g i : Int} (hg : In64 g) (hi : In64 i) :
    ∃ w', (∀ ty, (Builtin.delete_ #[64, 121] ty #[.map (some s.mb), .agg #[.int .i64 g, .int .i64 i]]).run Tryz.prog w = .ok (.tuple #[]) w') ∧ Rep B w' b q { s with th := fun g' i' => if g' = g ∧ i' = i then Ct.zero else s.th g' i' } ∧ w.grownBy w' (some s.mb) := by
  obtain ⟨a1, a2, a3, a4, a5, a6⟩ := h.apart
  obtain ⟨D, hD, hr⟩ := h.th
  obtain ⟨es, clock, hb, F, hs, rfl⟩ := hD
  obtain ⟨w', h1, h2, h3⟩ := World.ownsMap.drop (w := w) (R := RV) (H := Value) ⟨es, clock, hb, F, hs, rfl⟩ law118 Tryz.underlying64 (key_mk hg hi) 0
  have hgr := h3.grown
  refine ⟨w', fun ty => h1, ⟨?_, ?_, ?_, ⟨_, h2, ?_⟩, ?_, ?_, h.hb, h.hvb, h.hmb⟩, hgr⟩
  · rw [hgr.block b (h.lt b (by simp [foot])).2 (by simpa using Ne.symm a2)]; exact h.blk
  · rw [hgr.block s.vb (h.lt s.vb (by simp [foot])).2 (by simpa using Ne.symm a3)]; exact h.vol
  · exact own_of_block h.ss (fun k hk => hgr.block k (h.ss.lt k hk).2 (by simpa using (a4 k hk).2.2.1))
  · intro g' i' hg' hi'
    by_cases e : g' = g ∧ i' = i
    · obtain ⟨rfl, rfl⟩ := e
      rw [atKey_del_same]
      simp
    · rw [atKey_del_other (fun e' => e (kl_inj hg' hi' hg hi e'))]
      simp only [if_neg e]
      exact hr g' i' hg' hi'
  · exact own_of_block h.ms (fun k hk => hgr.block k (h.ms.lt k hk).2 (by simpa using (a5 k hk).2.2))
  · exact own_of_block h.lg (fun k hk => hgr.block k (h.lg.lt k hk).2 (by simpa using (a6 k hk).2.2.1))

def Sto.rem (s : Sto) (g : Int) (j : Nat) (sv : Value) (k : Nat) : Sto :=
  { s with ss := s.ss.eraseIdx j, th := fun g' i => if g' = g ∧ 0 ≤ i ∧ i < k then Ct.zero else s.th g' i, sv := sv }
theorem rem_zero (s : Sto) (g : Int) (j : Nat) (sv : Value) : s.rem g j sv 0 = { s with ss := s.ss.eraseIdx j, sv := sv } := by
  unfold Sto.rem
  congr 1
  funext g' i
  rw [if_neg (by omega)]
theorem rem_succ (s : Sto) (g : Int) (j : Nat) (sv : Value) (k : Nat) : s.rem g j sv (k + 1) = { s.rem g j sv k with th := fun g' i' => if g' = g ∧ i' = (k : Int) then Ct.zero else (s.rem g j sv k).th g' i' } := by
  unfold Sto.rem
  congr 1
  funext g' i
  by_cases h1 : g' = g ∧ i = (k : Int)
  · rw [if_pos h1, if_pos (by omega)]
  · rw [if_neg h1]
    show _ = (if g' = g ∧ 0 ≤ i ∧ i < (k : Int) then Ct.zero else s.th g' i)
    by_cases h2 : g' = g ∧ 0 ≤ i ∧ i < (k : Int)
    · rw [if_pos h2, if_pos (by omega)]
    · rw [if_neg h2, if_neg (by omega)]

/-- Behind Delete and the store. -/
theorem Rep.deleted {B : Nat} {w w' : World} {b : Nat} {q : Int} {s : Sto} (h : Rep B w b q s) {j gg cap : Nat} (hj : j < s.ss.length) (hsv : s.sv = .slice (some ⟨gg, 0, none⟩) s.ss.length cap) (ho : w'.ownsRow B 119 4 (.slice (some ⟨gg, 0, none⟩) (s.ss.length - 1) cap) (s.ss.length - 1) (snC (s.ss.eraseIdx j))) (hg : w.grownBy w' (some gg)) :
    Rep B (w'.setCell ⟨b, 4, none⟩ (.slice (some ⟨gg, 0, none⟩) (s.ss.length - 1) cap)) b q { s with ss := s.ss.eraseIdx j, sv := .slice (some ⟨gg, 0, none⟩) (s.ss.length - 1) cap } := by
  obtain ⟨a1, a2, a3, a4, a5, a6⟩ := h.apart
  have hgg : s.sv.ownBlock = some gg := by rw [hsv]; rfl
  have an := a4 gg hgg
  have hb : w'.heap[b]? = some (s.blk q) := by rw [hg.block b (h.lt b (by simp [foot])).2 (by simpa using Ne.symm an.1)]; exact h.blk
  refine ⟨?_, ?_, ?_, ?_, ?_, ?_, h.hb, h.hvb, h.hmb⟩
  · rw [heap_setCell_same w' b 4 _ _ _ hb]; rfl
  · rw [heap_setCell_other _ _ _ _ (by exact a1)]; exact (hg.block s.vb (h.lt s.vb (by simp [foot])).2 (by simpa using Ne.symm an.2.1)).trans h.vol
  · show (w'.setCell ⟨b, 4, none⟩ (.slice (some ⟨gg, 0, none⟩) (s.ss.length - 1) cap)).ownsRow B 119 4 (.slice (some ⟨gg, 0, none⟩) (s.ss.length - 1) cap) (s.ss.eraseIdx j).length (snC (s.ss.eraseIdx j))
    rw [List.length_eraseIdx_of_lt hj]
    exact own_of_block ho (fun k hk => heap_setCell_other _ _ _ _ (fun e => by
      have : gg = k := by simpa [Value.ownBlock] using hk
      exact an.1 (by rw [this]; exact e)))
  · refine h.th.of_block ?_
    rw [heap_setCell_other _ _ _ _ (by exact a2)]
    exact hg.block s.mb (h.lt s.mb (by simp [foot])).2 (by simpa using Ne.symm an.2.2.1)
  · refine own_of_block h.ms (fun k hk => ?_)
    rw [heap_setCell_other _ _ _ _ (a5 k hk).1]
    exact hg.block k (h.ms.lt k hk).2 (fun e => by
      have : k = gg := by simpa using e
      exact an.2.2.2 (by rw [← this]; exact hk))
  · refine own_of_block h.lg (fun k hk => ?_)
    rw [heap_setCell_other _ _ _ _ (a6 k hk).1]
    exact hg.block k (h.lg.lt k hk).2 (fun e => by
      have : k = gg := by simpa using e
      exact (a6 k hk).2.2.2.1 (by rw [this]; exact hgg))

set_option maxRecDepth 100000 in
set_option maxHeartbeats 1600000 in
theorem remove_any (B b : Nat) (q : Int) (s : Sto) (g : Int) (j : Nat) (w : World) (h : Rep B w b q s) (hl : s.ss.length ≤ 12) (hf : fi (fun y : Sn => y.guid == g) 0 s.ss = (j : Int)) (hj : j < s.ss.length) (hg : In64 g) (hv : s.vol.length ≤ 16) :
    Calls Tryz.prog 102 #[.pointer (some ⟨b, 0, none⟩), .int .i64 g] w fun e w' => e = .returned (.tuple #[]) ∧ ∃ sv, Rep B w' b q (s.rem g j sv s.vol.length) ∧ Fr (foot b s) w w' ∧ sv.ownBlock = s.sv.ownBlock := by
  have HS := findSnapshot_any B b q s g w h (by omega)
  rw [hf] at HS
  obtain ⟨ao, cap, hsv⟩ := own_shape h.ss
  have ho := h.ss
  rw [hsv] at ho
  obtain ⟨gg, hgg, hcap, _⟩ := own_addr ho (by omega)
  subst hgg
  have HV : Hid (s.sv = .slice (some ⟨gg, 0, none⟩) s.ss.length cap ∧ Rep B w b q s ∧ j < s.ss.length) := ⟨hsv, h, hj⟩
  obtain ⟨n, hn⟩ : ∃ n, s.ss.length = n := ⟨_, rfl⟩
  have HN : Hid (s.ss.length = n) := hn
  have HD : Hid (∀ W, Rep B W b q s → Calls Tryz.prog 120 #[.slice (some ⟨gg, 0, none⟩) n cap, .int .i64 j, .int .i64 ((j : Int) + 1)] W fun e w' => e = .returned (.slice (some ⟨gg, 0, none⟩) (n - 1) cap) ∧ w'.ownsRow B 119 4 (.slice (some ⟨gg, 0, none⟩) (n - 1) cap) (n - 1) (snC (s.ss.eraseIdx j)) ∧ W.grownBy w' (some gg)) := fun W hW => by
    have h1 := hW.ss
    rw [hsv, hn] at h1
    have := delete_one B gg n cap j s.ss W hn (by omega) (by omega) h1
    rw [show ((j + 1 : Nat) : Int) = (j : Int) + 1 by simp] at this
    exact this
  have q1 : IntKind.i64.wrap ((j : Int) + 1) = (j : Int) + 1 := wrap_fit ⟨by omega, by omega⟩
  obtain ⟨m, hm⟩ : ∃ m, s.vol.length = m := ⟨_, rfl⟩
  have HM : Hid (s.vol.length = m) := hm
  rw [hm] at hv ⊢
  clear h hf ho hsv hm hn hl hj
  go_enter Tryz.func102, Tryz.ntmps102
  go_wp2_with (first
    | (go_at_call 65; refine HS.mono ?_; rintro e w2 ⟨rfl, hfr⟩
       have HR2 : Hid (Rep B w2 b q s ∧ Fr (foot b s) w w2) := ⟨HV.out.2.1.kept0 hfr, (Fr.refl _ _).trans hfr (by simp)⟩
       have c4 : w2.cell? ⟨b, 4, none⟩ = some (.slice (some ⟨gg, 0, none⟩) n cap) := by rw [← HN.out, ← HV.out.1]; exact HR2.out.1.cells.2.2.2.1
       clear hfr)
    | (go_at_call 120; refine (HD.out _ HR2.out.1).mono ?_; rintro e w3 ⟨rfl, ho3, hg3⟩
       have HR3 : Hid (Rep B (w3.setCell ⟨b, 4, none⟩ (.slice (some ⟨gg, 0, none⟩) (n - 1) cap)) b q (s.rem g j (.slice (some ⟨gg, 0, none⟩) (n - 1) cap) 0) ∧ Fr (foot b s) w (w3.setCell ⟨b, 4, none⟩ (.slice (some ⟨gg, 0, none⟩) (n - 1) cap))) := by
         refine ⟨?_, (HR2.out.2.grown hg3 (fun k hk => Or.inl ?_)).setCell _ (Or.inl (by simp [foot]))⟩
         · rw [rem_zero]
           have := HR2.out.1.deleted (j := j) HV.out.2.2 HV.out.1 (by rw [HN.out]; exact ho3) hg3
           rw [HN.out] at this
           exact this
         · have : gg = k := by simpa using hk
           rw [← this]
           simp [foot, HV.out.1, Value.ownBlock]
       have c4' : ∃ v, w3.cell? ⟨b, 4, none⟩ = some v := ⟨_, hg3.cell c4 (by
         simp only [ne_eq, Option.some.injEq]
         intro e
         exact (HV.out.2.1.apart.2.2.2.1 gg (by rw [HV.out.1]; rfl)).1 e.symm)⟩
       obtain ⟨v4, c4'⟩ := c4'
       have f4' : w3.frozen? ⟨b, 4, none⟩ = false := (hg3.frozen_far ⟨b, 4, none⟩ (World.block_lt_of_cell? _ _ c4) (by
         simp only [ne_eq, Option.some.injEq]
         intro e
         exact (HV.out.2.1.apart.2.2.2.1 gg (by rw [HV.out.1]; rfl)).1 e.symm)).trans (HR2.out.1.frozen 4)
       obtain ⟨W9, hW9⟩ : ∃ W9, w3.setCell ⟨b, 4, none⟩ (.slice (some ⟨gg, 0, none⟩) (n - 1) cap) = W9 := ⟨_, rfl⟩
       rw [hW9] at HR3
       have k3 : W9.cell? ⟨b, 3, none⟩ = some (.slice (some ⟨s.vb, 0, none⟩) m m) := by rw [← HM.out]; exact HR3.out.1.cells.2.2.1
       clear ho3 hg3))
  obtain ⟨sv, hsv9⟩ : ∃ sv, Value.slice (some ⟨gg, 0, none⟩) (n - 1) cap = sv := ⟨_, rfl⟩
  have HSV : Hid (sv.ownBlock = s.sv.ownBlock) := by
    rw [← hsv9, HV.out.1]
    rfl
  rw [hsv9] at HR3
  clear hsv9 hW9 c4 c4' f4' k3
  go_loopw [25] (fun i wr => ∃ k : Nat, k ≤ m ∧ i = .int .i64 k ∧ Hid (Rep B wr b q (s.rem g j sv k) ∧ Fr (foot b s) w wr)) (fun i _ => m - (intOf i).toNat)
  case atStart => exact ⟨0, Nat.zero_le _, rfl, HR3⟩
  case round =>
    obtain ⟨k, hk, rfl, HK⟩ := hrel
    obtain ⟨W3, hW3⟩ : ∃ W3, W3 = wr := ⟨_, rfl⟩
    subst hW3
    clear HR3
    by_cases hlt : k < m
    · have j5 : W3.cell? ⟨b, 5, none⟩ = some (.map (some s.mb)) := HK.out.1.cells.2.2.2.2.1
      obtain ⟨w8, hp8, hr8, hg8⟩ := HK.out.1.drop (g := g) (i := (k : Int)) hg ⟨by omega, by omega⟩
      have hp : ∀ ty, (Builtin.delete_ #[64, 121] ty #[.map (some s.mb), .agg #[.int .i64 g, .int .i64 k]]).run Tryz.prog W3 = .ok (.tuple #[]) w8 := hp8
      have HK8 : Hid (Rep B w8 b q (s.rem g j sv (k + 1)) ∧ Fr (foot b s) w w8) := by
        refine ⟨by rw [rem_succ]; exact hr8, HK.out.2.grown hg8 (fun x hx => Or.inl ?_)⟩
        have : s.mb = x := by
          have e : (s.rem g j sv k).mb = x := by simpa using hx
          exact e
        rw [← this]
        simp [foot]
      have hltz : (k : Int) < (m : Int) := by omega
      clear hp8 hr8 hg8 HK
      go_wp2
      go_roundw
      case rel => exact ⟨k + 1, by omega, by go_num, HK8⟩
      case measure => simp [intOf]; omega
    · have hkk : k = m := by omega
      subst hkk
      go_wp2
      go_end0
      exact ⟨rfl, sv, HK.out.1, HK.out.2, HSV.out⟩
end Go.Proofs.YthdhegmlknpllaaGreat
