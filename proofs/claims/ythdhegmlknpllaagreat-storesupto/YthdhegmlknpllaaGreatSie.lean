/-
  Each call on both stores: Snap, At, Hold, Release, Mark, Unmark.
-/
import Derived.Test.YthdhegmlknpllaaGreatSid
namespace Go.Proofs.YthdhegmlknpllaaGreat
open Go.RowKit Go.Maps Go.MuLone

section
variable {B : Nat} {w w1 w2 W : World} {db b rb : Nat} {s s' : Sto} {r r' : RSto} {q : Nat}
theorem foot_up {N : Nat} (hv : s'.vb = s.vb) (hm : s'.mb = s.mb) (h1 : ∀ k, s'.sv.ownBlock = some k → s.sv.ownBlock = some k ∨ N ≤ k) (h2 : ∀ k, s'.mv.ownBlock = some k → s.mv.ownBlock = some k ∨ N ≤ k) (h3 : ∀ k, s'.lv.ownBlock = some k → s.lv.ownBlock = some k ∨ N ≤ k) : ∀ k ∈ foot b s', k ∈ foot b s ∨ N ≤ k := fun k hk => by
  simp only [foot, List.mem_append, List.mem_cons, List.not_mem_nil, or_false, Option.mem_toList] at hk ⊢
  rw [hv, hm] at hk
  rcases hk with ((hk | hk) | hk) | hk
  · exact Or.inl (Or.inl (Or.inl (Or.inl hk)))
  · rcases h1 k hk with h | h
    · exact Or.inl (Or.inl (Or.inl (Or.inr h)))
    · exact Or.inr h
  · rcases h2 k hk with h | h
    · exact Or.inl (Or.inl (Or.inr h))
    · exact Or.inr h
  · rcases h3 k hk with h | h
    · exact Or.inl (Or.inr h)
    · exact Or.inr h
theorem rfoot_up {N : Nat} (h1 : ∀ k, r'.sv.ownBlock = some k → r.sv.ownBlock = some k ∨ N ≤ k) (h2 : ∀ k, r'.mv.ownBlock = some k → r.mv.ownBlock = some k ∨ N ≤ k) : ∀ k ∈ rfoot rb r', k ∈ rfoot rb r ∨ N ≤ k := fun k hk => by
  simp only [rfoot, List.mem_append, List.mem_cons, List.not_mem_nil, or_false, Option.mem_toList] at hk ⊢
  rcases hk with (hk | hk) | hk
  · exact Or.inl (Or.inl (Or.inl hk))
  · rcases h1 k hk with h | h
    · exact Or.inl (Or.inl (Or.inr h))
    · exact Or.inr h
  · rcases h2 k hk with h | h
    · exact Or.inl (Or.inr h)
    · exact Or.inr h
theorem n4_size (z : Int) : (n4 z).ba.size ≤ 50 := by
  have : (n4 z).ba.size = 4 := rfl
  omega

theorem p_snap (h : SD B w db b rb s r) (m : Sim s r q) (t : Int) (hq : q ≤ 2000000) :
    Calls Tryz.prog 29 #[.pointer (some ⟨b, 0, none⟩), .int .i64 t] w (PC fI B w db b rb s r q 30 #[.pointer (some ⟨rb, 0, none⟩), .int .i64 t]) := by
  by_cases ht : t < 0 ∨ 1073741824 < t
  · refine (snap_arg B b s t w h.rep ht).mono ?_
    rintro e w1 ⟨rfl, rp, f1⟩
    obtain ⟨b1, hr⟩ := h.pair rp f1 (fun k hk => Or.inl hk) (still m (fun W _ => rsnap_arg rb t W ht))
    exact ⟨(0, 1), rfl, b1, hr⟩
  · have ht' : 0 ≤ t ∧ t ≤ 1073741824 := by omega
    have hid : 1 ≤ r.id ∧ r.id ≤ 999 := by rw [m.id.1]; exact m.id.2
    have hl12 := m.len
    have e1 := m.last
    have e2 := m.glen
    have e3 := m.mlen
    have e4 := m.cm
    by_cases hf : s.ss.length = 12 ∨ s.taken = 999999
    · refine (snap_full B b s t w h.rep ht' m.id.2 ⟨e4.2.1, e4.2.2⟩ m.free hl12.1 hl12.2 hf).mono ?_
      rintro e w1 ⟨rfl, rp, f1⟩
      obtain ⟨b1, hr⟩ := h.pair rp f1 (fun k hk => Or.inl hk) (still m (fun W hW => rsnap_full B rb r t W hW ht' hid (by omega) m.rfree (by omega) (by omega) (by omega)))
      exact ⟨(0, 5), rfl, b1, hr⟩
    · have hcn := m.cn
      have hbl := m.bl
      refine (snap_ok B b s t w h.rep ht' m.id.2 (by omega) m.free (by omega) hl12.2 (by omega) hbl.2.2 (by unfold maxLen; omega) (by have := m.lg; omega)).mono ?_
      rintro e w1 ⟨rfl, sv, lv, rp, f1, o1, o2⟩
      have eg : gu s (s.taken + 1) = 1000000 * r.id + (r.last + 1) := by have := m.id.1; unfold gu; omega
      obtain ⟨b1, hr⟩ := h.pair rp f1 (foot_up rfl rfl o1 (fun k hk => Or.inl hk) o2) (f := 30) (args := #[.pointer (some ⟨rb, 0, none⟩), .int .i64 t]) (v := fI (gu s (s.taken + 1), 0)) (q := q) (fun W hW => by
        refine (rsnap_ok B rb r t W hW ht' hid (by omega) m.rfree (by omega) (by omega) (by have := m.rn; omega)).mono ?_
        rintro e w2 ⟨rfl, sv', rr, f2, o3⟩
        exact ⟨by rw [← eg]; rfl, _, rr, f2, rfoot_up o3 (fun k hk => Or.inl hk), m.snap (by omega) (by omega) t (n4_size t)⟩)
      exact ⟨(gu s (s.taken + 1), 0), rfl, b1, hr⟩
/-- The place of a snapshot, in both. -/
theorem simSpot (m : Sim s r q) (g : Int) : (fi (fun y : Sn => y.guid == g) 0 s.ss = -1 ∧ fi (fun y : RSh => y.guid == g) 0 r.sh = -1) ∨ ∃ (j : Nat) (x : Sn) (y : RSh), s.ss[j]? = some x ∧ r.sh[j]? = some y ∧ fi (fun y : Sn => y.guid == g) 0 s.ss = (j : Int) ∧ fi (fun y : RSh => y.guid == g) 0 r.sh = (j : Int) ∧ x.guid = g ∧ y.guid = g ∧ y.holds = x.holds ∧ x ∈ s.ss ∧ y ∈ r.sh := by
  rcases fi_cases (fun y : Sn => y.guid == g) s.ss with e | ⟨j, hj, e, hg⟩
  · exact Or.inl ⟨e, by rw [m.fi]; exact e⟩
  · have hj' : j < r.sh.length := by rw [m.glen]; exact hj
    have hxy := m.at hj
    unfold t3 r3 at hxy
    simp only [Prod.mk.injEq] at hxy
    have hg' : s.ss[j].guid = g := by simpa using hg
    exact Or.inr ⟨j, s.ss[j], r.sh[j], List.getElem?_eq_getElem hj, List.getElem?_eq_getElem hj', e, by rw [m.fi]; exact e, hg', by rw [← hxy.1]; exact hg', hxy.2.2.symm, List.getElem_mem hj, List.getElem_mem hj'⟩

theorem p_at (h : SD B w db b rb s r) (m : Sim s r q) (g k : Int) (hg64 : In64 g) :
    Calls Tryz.prog 35 #[.pointer (some ⟨b, 0, none⟩), .int .i64 g, .int .i64 k] w (PC fT B w db b rb s r q 36 #[.pointer (some ⟨rb, 0, none⟩), .int .i64 g, .int .i64 k]) := by
  have hl12 := m.len.1
  have e2 := m.glen
  rcases simSpot m g with ⟨e, e'⟩ | ⟨j, x, y, hx, hy, e, e', hxg, hyg, hh, hxm, hym⟩
  · refine (at_none B b s g k w h.rep hl12 e).mono ?_
    rintro e w1 ⟨rfl, rp, f1⟩
    obtain ⟨b1, hr⟩ := h.pair rp f1 (fun k hk => Or.inl hk) (still m (fun W hW => rat_none B rb r g k W hW (by omega) e'))
    exact ⟨(⟨#[]⟩, 3), rfl, b1, hr⟩
  · by_cases hb : (decide (0 ≤ k) && decide (k < s.vol.length)) = false
    · refine (at_arg B b s g j k w h.rep hl12 e hb).mono ?_
      rintro e w1 ⟨rfl, rp, f1⟩
      obtain ⟨b1, hr⟩ := h.pair rp f1 (fun k hk => Or.inl hk) (still m (fun W hW => rat_arg B rb r g k j W hW (by omega) e' (by rw [m.bl.1]; exact hb)))
      exact ⟨(⟨#[]⟩, 1), rfl, b1, hr⟩
    · have hk : 0 ≤ k ∧ k < s.vol.length := by simpa using hb
      obtain ⟨n, rfl⟩ : ∃ n : Nat, k = (n : Int) := ⟨k.toNat, by omega⟩
      have hn : n < s.vol.length := by omega
      refine (at_ok B b s g n w h.rep (by omega) hg64 ⟨x, hxm, by simpa using hxg⟩ hn m.bl.2.2).mono ?_
      rintro e w1 ⟨rfl, rp, f1⟩
      obtain ⟨b1, hr⟩ := h.pair rp f1 (fun k hk => Or.inl hk) (still (v := fT ((s.th g n).x.ba, 0)) m (fun W hW => by
        have hw := hW.wf y hym
        have h8 := rat_ok B rb r g j n y W hW (by omega) e' hy (by rw [m.bl.1]; exact hn) (by rw [m.bl.1]; exact m.bl.2.2) hw
        have e3 := m.th y hym n hn
        rw [hyg, List.getElem?_eq_getElem (by rw [hw.1]; have := m.bl.2.2; omega)] at e3
        simp only [Option.some.injEq] at e3
        rw [e3] at h8
        exact h8))
      exact ⟨((s.th g n).x.ba, 0), rfl, b1, hr⟩
theorem p_hold (h : SD B w db b rb s r) (m : Sim s r q) (g : Int) (hq : q ≤ 2000000) :
    Calls Tryz.prog 37 #[.pointer (some ⟨b, 0, none⟩), .int .i64 g] w (PC fC B w db b rb s r q 38 #[.pointer (some ⟨rb, 0, none⟩), .int .i64 g]) := by
  have hl12 := m.len.1
  have e2 := m.glen
  rcases simSpot m g with ⟨e, e'⟩ | ⟨j, x, y, hx, hy, e, e', hxg, hyg, hh, hxm, hym⟩
  · refine (hold_none B b s g w h.rep hl12 e).mono ?_
    rintro e w1 ⟨rfl, rp, f1⟩
    obtain ⟨b1, hr⟩ := h.pair rp f1 (fun k hk => Or.inl hk) (still m (fun W hW => rhold_none B rb r g W hW (by omega) e'))
    exact ⟨3, rfl, b1, hr⟩
  · have hho := m.ho x hxm
    by_cases h9 : 9 ≤ x.holds
    · refine (hold_full B b s g j x w h.rep hl12 e hx h9).mono ?_
      rintro e w1 ⟨rfl, rp, f1⟩
      obtain ⟨b1, hr⟩ := h.pair rp f1 (fun k hk => Or.inl hk) (still m (fun W hW => rhold_full B rb r g j y W hW (by omega) e' hy (by omega)))
      exact ⟨5, rfl, b1, hr⟩
    · refine (hold_ok B b s g j x w h.rep hl12 e hx (by omega) (by have := m.lg; omega)).mono ?_
      rintro e w1 ⟨rfl, lv, rp, f1, o1⟩
      obtain ⟨b1, hr⟩ := h.pair rp f1 (foot_up rfl rfl (fun k hk => Or.inl hk) (fun k hk => Or.inl hk) o1) (f := 38) (args := #[.pointer (some ⟨rb, 0, none⟩), .int .i64 g]) (v := fC 0) (q := q) (fun W hW => by
        refine (rhold_ok B rb r g j y W hW (by omega) e' hy (by omega)).mono ?_
        rintro e w2 ⟨rfl, rr, f2⟩
        rw [hh] at rr
        exact ⟨rfl, _, rr, f2, fun k hk => Or.inl hk, m.setH hx hy (by omega) (n4_size g)⟩)
      exact ⟨0, rfl, b1, hr⟩
theorem p_release (h : SD B w db b rb s r) (m : Sim s r q) (g : Int) (hq : q ≤ 2000000) :
    Calls Tryz.prog 39 #[.pointer (some ⟨b, 0, none⟩), .int .i64 g] w (PC fC B w db b rb s r q 40 #[.pointer (some ⟨rb, 0, none⟩), .int .i64 g]) := by
  have hl12 := m.len.1
  have e2 := m.glen
  rcases simSpot m g with ⟨e, e'⟩ | ⟨j, x, y, hx, hy, e, e', hxg, hyg, hh, hxm, hym⟩
  · refine (release_none B b s g w h.rep hl12 e).mono ?_
    rintro e w1 ⟨rfl, rp, f1⟩
    obtain ⟨b1, hr⟩ := h.pair rp f1 (fun k hk => Or.inl hk) (still m (fun W hW => rrelease_none B rb r g W hW (by omega) e'))
    exact ⟨3, rfl, b1, hr⟩
  · have hho := m.ho x hxm
    by_cases h0 : x.holds = 0
    · refine (release_bad B b s g j x w h.rep hl12 e hx h0).mono ?_
      rintro e w1 ⟨rfl, rp, f1⟩
      obtain ⟨b1, hr⟩ := h.pair rp f1 (fun k hk => Or.inl hk) (still m (fun W hW => rrelease_bad B rb r g j y W hW (by omega) e' hy (by omega)))
      exact ⟨1, rfl, b1, hr⟩
    · refine (release_ok B b s g j x w h.rep hl12 e hx (by omega) (by have := m.lg; omega)).mono ?_
      rintro e w1 ⟨rfl, lv, rp, f1, o1⟩
      obtain ⟨b1, hr⟩ := h.pair rp f1 (foot_up rfl rfl (fun k hk => Or.inl hk) (fun k hk => Or.inl hk) o1) (f := 40) (args := #[.pointer (some ⟨rb, 0, none⟩), .int .i64 g]) (v := fC 0) (q := q) (fun W hW => by
        refine (rrelease_ok B rb r g j y W hW (by omega) e' hy (by omega)).mono ?_
        rintro e w2 ⟨rfl, rr, f2⟩
        rw [hh] at rr
        exact ⟨rfl, _, rr, f2, fun k hk => Or.inl hk, m.setH hx hy (by omega) (n4_size g)⟩)
      exact ⟨0, rfl, b1, hr⟩
theorem p_mark (h : SD B w db b rb s r) (m : Sim s r q) (g : Int) (hq : q ≤ 2000000) :
    Calls Tryz.prog 42 #[.pointer (some ⟨b, 0, none⟩), .int .i64 g] w (PC fC B w db b rb s r q 43 #[.pointer (some ⟨rb, 0, none⟩), .int .i64 g]) := by
  have hl12 := m.len
  have e2 := m.glen
  have e3 := m.mlen
  rcases fi_cases (fun y : Int × Int => y.1 == g) s.ms with em | ⟨i, hi, em, _⟩
  · have em' : fi (fun y : Int × Int => y.1 == g) 0 r.ms = -1 := by rw [m.fim]; exact em
    rcases simSpot m g with ⟨e, e'⟩ | ⟨j, x, y, hx, hy, e, e', hxg, hyg, hh, hxm, hym⟩
    · refine (mark_none B b s g w h.rep hl12.2 hl12.1 em e).mono ?_
      rintro e w1 ⟨rfl, rp, f1⟩
      obtain ⟨b1, hr⟩ := h.pair rp f1 (fun k hk => Or.inl hk) (still m (fun W hW => rmark_none B rb r g W hW (by omega) (by omega) em' e'))
      exact ⟨3, rfl, b1, hr⟩
    · by_cases hf : s.ms.length = 12
      · refine (mark_full B b s g j w h.rep hf hl12.1 em e).mono ?_
        rintro e w1 ⟨rfl, rp, f1⟩
        obtain ⟨b1, hr⟩ := h.pair rp f1 (fun k hk => Or.inl hk) (still m (fun W hW => rmark_full B rb r g j W hW (by omega) (by omega) em' e'))
        exact ⟨5, rfl, b1, hr⟩
      · have hno : ∀ a ∈ s.ms, a.1 ≠ x.guid := fun a ha e => by
          rw [hxg] at e
          obtain ⟨j, hj, e2, _⟩ := fi_some (p := fun y : Int × Int => y.1 == g) s.ms 0 ⟨a, ha, by simpa using e⟩
          rw [em] at e2
          omega
        have hcm := m.cm
        have hxc := m.gs x hxm
        refine (mark_new B b s g j x w h.rep hl12.1 (by omega) e hx em (fun a ha => by have := m.mg a ha; omega) (by omega) (by have := m.lg; omega)).mono ?_
        rintro e w1 ⟨rfl, l, mv, lv, hp, hs, rp, f1, o1, o2⟩
        rw [← hxg] at hp
        obtain ⟨b1, hr⟩ := h.pair rp f1 (foot_up rfl rfl (fun k hk => Or.inl hk) o1 o2) (f := 43) (args := #[.pointer (some ⟨rb, 0, none⟩), .int .i64 g]) (v := fC 0) (q := q) (fun W hW => by
          have fin : ∀ (e : Ending) (w2 : World), (e = .returned (.int .i64 0) ∧ ∃ mv, RRep B w2 rb (r.setM (insM (g, y.came) r.ms) mv) ∧ Fr (rfoot rb r) W w2 ∧ (∀ k, mv.ownBlock = some k → W.heap.size ≤ k)) → (e = .returned (fC 0) ∧ ∃ r', RRep B w2 rb r' ∧ Fr (rfoot rb r) W w2 ∧ (∀ k ∈ rfoot rb r', k ∈ rfoot rb r ∨ W.heap.size ≤ k) ∧ Sim ((s.marked l mv).noted 77 (n4 g).ba lv) r' (q + 1)) := by
            rintro e w2 ⟨rfl, mv', rr, f2, o3⟩
            rw [← hxg] at rr
            exact ⟨rfl, _, rr, f2, rfoot_up (fun k hk => Or.inl hk) (fun k hk => Or.inr (o3 k hk)), m.marked hx hy hno (by omega) hp hs (n4_size g)⟩
          by_cases hn : r.mv = .slice none 0 0
          · have hms : r.ms = [] := by
              have ho := hW.ms
              rw [hn] at ho
              rcases ho.2 with ⟨_, h0⟩ | ⟨g, c, cur, h0, _⟩
              · exact List.length_eq_zero_iff.1 h0
              · simp at h0
            exact (rmark_nil B rb r g j y W hW (by omega) em' e' hy hms hn).mono fun e w2 hp => fin e w2 hp
          · by_cases ha : ahead y.came r.ms < r.ms.length
            · exact (rmark_mid B rb r g j y W hW (by omega) (by omega) em' e' hy ha).mono fun e w2 hp => fin e w2 hp
            · exact (rmark_last B rb r g j y W hW (by omega) (by omega) em' e' hy (ahead_all _ _ (by omega)) hn).mono fun e w2 hp => fin e w2 hp)
        exact ⟨0, rfl, b1, hr⟩
  · refine (mark_was B b s g i w h.rep hl12.2 em).mono ?_
    rintro e w1 ⟨rfl, rp, f1⟩
    obtain ⟨b1, hr⟩ := h.pair rp f1 (fun k hk => Or.inl hk) (still m (fun W hW => rmark_was B rb r g i W hW (by omega) (by omega) (by rw [m.fim]; exact em)))
    exact ⟨0, rfl, b1, hr⟩
theorem p_unmark (h : SD B w db b rb s r) (m : Sim s r q) (g : Int) (hq : q ≤ 2000000) :
    Calls Tryz.prog 44 #[.pointer (some ⟨b, 0, none⟩), .int .i64 g] w (PC fC B w db b rb s r q 45 #[.pointer (some ⟨rb, 0, none⟩), .int .i64 g]) := by
  have hl12 := m.len
  have e3 := m.mlen
  rcases fi_cases (fun y : Int × Int => y.1 == g) s.ms with em | ⟨i, hi, em, _⟩
  · refine (unmark_none B b s g w h.rep hl12.2 em).mono ?_
    rintro e w1 ⟨rfl, rp, f1⟩
    obtain ⟨b1, hr⟩ := h.pair rp f1 (fun k hk => Or.inl hk) (still m (fun W hW => runmark_none B rb r g W hW (by omega) (by rw [m.fim]; exact em)))
    exact ⟨3, rfl, b1, hr⟩
  · refine (unmark_ok B b s g i w h.rep hl12.2 em hi (by have := m.lg; omega)).mono ?_
    rintro e w1 ⟨rfl, mv, lv, rp, f1, o1, o2⟩
    obtain ⟨b1, hr⟩ := h.pair rp f1 (foot_up rfl rfl (fun k hk => Or.inl hk) (fun k hk => Or.inl (by rw [← o1]; exact hk)) o2) (f := 45) (args := #[.pointer (some ⟨rb, 0, none⟩), .int .i64 g]) (v := fC 0) (q := q) (fun W hW => by
      refine (runmark_ok B rb r g i W hW (by omega) (by rw [m.fim]; exact em) (by omega)).mono ?_
      rintro e w2 ⟨rfl, mv', rr, f2, o3⟩
      exact ⟨rfl, _, rr, f2, rfoot_up (fun k hk => Or.inl hk) (fun k hk => Or.inr (o3 k hk)), m.unmark i (n4_size g)⟩)
    exact ⟨0, rfl, b1, hr⟩
end
end Go.Proofs.YthdhegmlknpllaaGreat
