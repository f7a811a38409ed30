import Derived.Test.YthdhegmlknpllabGreatDoorM46
import Derived.Test.YthdhegmlknpllabGreatDoorM50
import Derived.Test.YthdhegmlknpllabGreatDoorM49
import Derived.Test.YthdhegmlknpllabGreatDoorM51
import Derived.Test.YthdhegmlknpllabGreatDoorM52
/-
  Pure: where every letter comes at once: what a letter makes of it, what a second makes of it.
-/
namespace Go.Proofs.YthdhegmlknpllabGreatDoor
open Go.RowKit Go.Maps Go.MuLone

theorem Lt.wt_pos (l : Lt) : 1 ≤ l.wt := by cases l using Lt.cs <;> simp [Lt.wt]
theorem Lt.wt_le (l : Lt) : l.wt ≤ 4 := by cases l using Lt.cs <;> simp [Lt.wt]
theorem wts_nil {way : List (Nat × Lt)} (h : wts way = 0) : way = [] := by
  cases way with
  | nil => rfl
  | cons a b =>
    exfalso
    have e : wts (a :: b) = a.2.wt + wts b := by simp [wts]
    have := a.2.wt_pos
    omega
theorem wts_le : ∀ (way : List (Nat × Lt)), wts way ≤ 4 * way.length
  | [] => by simp [wts]
  | a :: b => by
    have e : wts (a :: b) = a.2.wt + wts b := by simp [wts]
    have h1 := a.2.wt_le
    have h2 := wts_le b
    rw [e, List.length_cons]
    omega

section
variable {n : Nat} {S : Sto} {ps ps' : List Pe} {im im' : List Img} {Rs Rs' : List Sto} {way way' rest : List (Nat × Lt)} {T nw ti U : Int} {q i : Nat} {l : Lt} {fr : Nat → Prop}
/-- A letter comes. -/
theorem Calm.gstep (c : Calm ps Rs way nw ti U fr) (h : NInv n S ps im Rs way T q) (hw : way = (i, l) :: rest) (hnw : nwG im.length = nw) (g : GStep im ps ps' Rs Rs' rest way' i l) : Calm ps' Rs' way' nw ti U fr ∧ wts way' < wts way := by
  rcases g with ⟨_, rfl, p, p', out, hp, rfl, hs, rfl⟩ | ⟨_, rfl, R, R', l', hR, rfl, hs, rfl⟩
  · have hi : i < ps.length := (List.getElem?_eq_some_iff.1 hp).1
    have hR : Rs'[i]? = some (Rs'[i]'(by rw [h.rl]; exact hi)) := List.getElem?_eq_getElem _
    rw [hnw] at hs
    exact c.sstep hw hp hR hs
  · have hi : i < Rs.length := (List.getElem?_eq_some_iff.1 hR).1
    have hp : ps'[i]? = some (ps'[i]'(by rw [← h.rl]; exact hi)) := List.getElem?_eq_getElem _
    exact c.rstep h hw hp hR hs

theorem nwG_le {a b : Nat} (h : a ≤ b) : nwG a ≤ nwG b := by
  unfold nwG
  split <;> split <;> omega
/-- Behind a second's questions each peer is at its first letter, or waits. -/
theorem Calm.tock {L : List (Nat × Lt)} (h : NInv n S ps im Rs [] T q) (hi : im.length ≤ im'.length) (a : Asked ps ps' L ti (nwG im'.length) ps.length) (hU : ∀ p ∈ ps, p.aw ≠ 0 → p.un ≤ U) :
    Calm ps' Rs L (nwG im'.length) ti U (fun i => ∃ p, ps[i]? = some p ∧ p.aw = 0 ∧ p.x = 0) := by
  intro i p' R h1 h2
  have hi2 : i < ps.length := by rw [← a.1]; exact (List.getElem?_eq_some_iff.1 h1).1
  obtain ⟨p, hp⟩ : ∃ p, ps[i]? = some p := ⟨_, List.getElem?_eq_getElem hi2⟩
  have o := h.pe i p R hp h2
  have hnn := nwG_le hi
  rcases a.2 i p hp with ⟨_, hd, un, e1, e2⟩ | ⟨hd, e1, e2⟩
  · rw [h1] at e1
    cases e1
    rw [e2]
    refine ⟨rfl, rfl, fun ⟨p2, a2, b2, c2⟩ => ?_⟩
    rw [hp] at a2
    cases a2
    exact c2
  · have e3 : p' = p := by
      rw [h1] at e1
      exact Option.some.inj e1
    rw [e2, e3]
    have hd' : ¬ Due p ti (nwG im'.length) := hd.resolve_left (by omega)
    by_cases haw : p.aw = 0
    · left
      unfold Due at hd'
      rw [if_pos haw, o.g] at hd'
      have hx0 : p.x = 0 := by
        rcases o.x with e | ⟨⟨y, hy, e⟩, hlt⟩
        · exact e
        · exfalso
          apply hd'
          have h3 := (h.src.sn y hy).1
          have h4 := h.src.le_last h3
          rw [h.src.lst] at h4
          have := h3.1
          exact ⟨by omega, by omega, by omega⟩
      refine ⟨haw, hx0, fun _ => ?_⟩
      by_cases h0 : nwG im'.length = 0
      · rcases o.k with e | ⟨e, _⟩
        · omega
        · exfalso
          have h4 := h.src.le_last e
          rw [h.src.lst] at h4
          have := e.1
          omega
      · exact Decidable.byContradiction fun hne => hd' ⟨h0, fun e => hne e.symm, h0⟩
    · right
      unfold Due at hd'
      rw [if_neg haw] at hd'
      exact ⟨haw, by omega, hU p (List.mem_of_getElem? hp) haw, fun ⟨p2, a2, b2, _⟩ => by
        rw [hp] at a2
        cases a2
        exact haw b2⟩

/-- Nothing is on its way. -/
theorem Calm.idle (c : Calm ps Rs [] nw ti U fr) {p : Pe} {R : Sto} (hp : ps[i]? = some p) (hR : Rs[i]? = some R) : (p.aw = 0 ∧ p.x = 0 ∧ (fr i → p.k = nw)) ∨ (p.aw ≠ 0 ∧ ti < p.un ∧ p.un ≤ U ∧ ¬ fr i) := c i p R hp hR
end

/-- What holds of a net behind a second whose letters all came, where U is when the last wait ends. -/
structure Cl (x : PS) (U : Int) : Prop where
  way : x.way = []
  un : ∀ p ∈ x.ps, p.aw ≠ 0 → p.un ≤ U
  still : U ≤ x.ti → ∀ p ∈ x.ps, p.aw = 0 ∧ p.x = 0
  kn : U < x.ti → ∀ p ∈ x.ps, p.k = nwG x.im.length
/-- A second, and its letters. -/
theorem Cl.next {w0 W : World} {N : NC} {x x' : PS} {U : Int} (c : Cl x U) (h' : Net w0 W N x') (ht : x'.ti = x.ti + 1) (hlen : x'.ps.length = x.ps.length) (c' : Calm x'.ps x'.Rs x'.way (nwG x'.im.length) x'.ti U (fun i => ∃ p, x.ps[i]? = some p ∧ p.aw = 0 ∧ p.x = 0)) (hw : x'.way = []) : Cl x' U := by
  rw [hw] at c'
  have key : ∀ p ∈ x'.ps, ∃ (i : Nat) (p0 : Pe), x.ps[i]? = some p0 ∧ ((p.aw = 0 ∧ p.x = 0 ∧ ((p0.aw = 0 ∧ p0.x = 0) → p.k = nwG x'.im.length)) ∨ (p.aw ≠ 0 ∧ x'.ti < p.un ∧ p.un ≤ U)) := fun p hp => by
    obtain ⟨i, R, e1, e2, _⟩ := h'.I.peer_of hp
    have hi : i < x.ps.length := by rw [← hlen]; exact (List.getElem?_eq_some_iff.1 e1).1
    have e3 : x.ps[i]? = some x.ps[i] := List.getElem?_eq_getElem hi
    refine ⟨i, _, e3, ?_⟩
    rcases c'.idle e1 e2 with ⟨a, b, d⟩ | ⟨a, b, d, _⟩
    · exact Or.inl ⟨a, b, fun ⟨f, g⟩ => d ⟨_, e3, f, g⟩⟩
    · exact Or.inr ⟨a, b, d⟩
  refine ⟨hw, fun p hp ha => ?_, fun hu p hp => ?_, fun hu p hp => ?_⟩
  · obtain ⟨i, p0, _, ⟨a, _⟩ | ⟨_, _, d⟩⟩ := key p hp
    · exact absurd a ha
    · exact d
  · obtain ⟨i, p0, _, ⟨a, b, _⟩ | ⟨_, b, d⟩⟩ := key p hp
    · exact ⟨a, b⟩
    · omega
  · obtain ⟨i, p0, e, ⟨_, _, d⟩ | ⟨_, b, d⟩⟩ := key p hp
    · exact d (c.still (by omega) p0 (List.mem_of_getElem? e))
    · omega
/-- Then each replica has what the source took last. -/
theorem Cl.same {w0 W : World} {N : NC} {x : PS} (h : Net w0 W N x) (hst : ∀ p ∈ x.ps, p.aw = 0 ∧ p.x = 0) (hk : ∀ p ∈ x.ps, p.k = nwG x.im.length) : ∀ (i : Nat) (p : Pe) (R : Sto), x.ps[i]? = some p → x.Rs[i]? = some R → p.k = lastG x.S.ss ∧ lastG R.ss = lastG x.S.ss := fun i p R hp hR => by
  have hm := List.mem_of_getElem? hp
  have o := h.I.pe i p R hp hR
  have e := hk p hm
  have l := h.I.src.lst
  refine ⟨by rw [e, l], ?_⟩
  rcases o.rr with r | ⟨r, _⟩
  · rw [r, e, l]
  · exact absurd (hst p hm).2 r
end Go.Proofs.YthdhegmlknpllabGreatDoor

/-
  The walk of tetherkeep's arrives (9).
-/
namespace Go.Proofs.YthdhegmlknpllabGreatDoor
open Go.RowKit Go.Maps Go.MuLone

/-- The net behind k letters. -/
def AQ (w0 : World) (N : NC) (x : PS) (U : Int) (fr : Nat → Prop) (k : Nat) (W : World) (x' : PS) : Prop :=
  Net w0 W N x' ∧ x'.ti = x.ti ∧ x'.im = x.im ∧ x'.ps.length = x.ps.length ∧ wts x'.way + k ≤ 12 ∧ x'.q ≤ x.q + 3 * k ∧ Calm x'.ps x'.Rs x'.way (nwG x.im.length) x.ti U fr
theorem GStep.len {im : List Img} {ps ps' : List Pe} {Rs Rs' : List Sto} {way1 way' : List (Nat × Lt)} {i : Nat} {l : Lt} (g : GStep im ps ps' Rs Rs' way1 way' i l) : ps'.length = ps.length := by
  rcases g with ⟨_, _, p, p', out, _, rfl, _⟩ | ⟨_, rfl, _⟩
  · simp
  · rfl
theorem AQ.step {w0 W : World} {N : NC} {x x' : PS} {U : Int} {fr : Nat → Prop} {k : Nat} (h : AQ w0 N x U fr k W x') (hq : x.q ≤ 600000) (hl : 0 < x'.way.length) :
    Calls Tryz.prog 22 #[.pointer (some ⟨N.nb, 0, none⟩), .int .i64 0, .bool false] W fun e w' => e = .returned (.bool true) ∧ ∃ x'', AQ w0 N x U fr (k + 1) w' x'' := by
  obtain ⟨n, e1, e2, e3, e4, e5, c⟩ := h
  obtain ⟨⟨i, l⟩, rest, hw⟩ := List.exists_cons_of_length_pos hl
  have e6 : x'.way.eraseIdx 0 = rest := by rw [hw]; rfl
  have hg := gives_any w0 N x' 0 false i l W n (by omega) (by rw [hw]; rfl)
  refine hg.mono ?_
  rintro e w' ⟨rfl, S', ps', Rs', way', n', g⟩
  rw [if_neg (by simp), e6] at g
  have d := c.gstep n.I hw (by rw [e2]) g
  exact ⟨rfl, _, n', e1, e2, by show ps'.length = _; rw [g.len, e3], by have := d.2; show wts way' + (k + 1) ≤ 12; omega, by show x'.q + 3 ≤ _; omega, d.1⟩

set_option maxRecDepth 100000 in
set_option maxHeartbeats 1600000 in
theorem arrives_any (w0 : World) (N : NC) (x : PS) (U : Int) (fr : Nat → Prop) (w : World) (h : Net w0 w N x) (hq : x.q ≤ 600000) (hc : Calm x.ps x.Rs x.way (nwG x.im.length) x.ti U fr) (hw : wts x.way ≤ 12) :
    Calls Tryz.prog 9 #[.pointer (some ⟨N.nb, 0, none⟩)] w fun e w' => e = .returned (.bool true) ∧ ∃ x', Net w0 w' N x' ∧ x'.ti = x.ti ∧ x'.im = x.im ∧ x'.ps.length = x.ps.length ∧ x'.way = [] ∧ x'.q ≤ x.q + 36 ∧ Calm x'.ps x'.Rs x'.way (nwG x.im.length) x.ti U fr := by
  have H0 : Hid (AQ w0 N x U fr 0 w x) := ⟨h, rfl, rfl, rfl, by omega, by omega, hc⟩
  clear h hc hw
  go_enter Tryz.func9, Tryz.ntmps9
  go_wp2
  go_loopw [3] (fun i wr => ∃ (k : Nat) (x' : PS), k ≤ 12 ∧ i = .int .i64 k ∧ Hid (AQ w0 N x U fr k wr x')) (fun i _ => 12 - (intOf i).toNat)
  case atStart => exact ⟨0, x, by omega, rfl, H0⟩
  case round =>
    obtain ⟨k, x', hk, rfl, HA⟩ := hrel
    obtain ⟨W3, hW3⟩ : ∃ W3, W3 = wr := ⟨_, rfl⟩
    subst hW3
    obtain ⟨rv, wv, iv, vs, M⟩ := HA.out.1.m
    obtain ⟨wa, wc, hwv⟩ := own_shape M.wo
    obtain ⟨m, hm⟩ : ∃ m, x'.way.length = m := ⟨_, rfl⟩
    have n3 := M.cells.2.2.2.1
    rw [hwv, hm] at n3
    have HM : Hid (x'.way.length = m) := hm
    have hkz : (k : Int) < 60 := by omega
    clear M hwv
    by_cases hm0 : m = 0
    · subst hm0
      have HW : Hid (x'.way = []) := List.length_eq_zero_iff.1 hm
      clear hm
      go_wp2
      go_ret
      exact ⟨rfl, x', HA.out.1, HA.out.2.1, HA.out.2.2.1, HA.out.2.2.2.1, HW.out, by have := HA.out.2.2.2.2.2.1; omega, HA.out.2.2.2.2.2.2⟩
    · have hm1 : (0 : Int) < (m : Int) := by omega
      have hk11 : k < 12 := by
        have h8 := HA.out.2.2.2.2.1
        rcases Nat.eq_zero_or_pos (wts x'.way) with e | e
        · have := wts_nil e
          rw [this] at hm
          simp at hm
          omega
        · omega
      have HS : Hid (Calls Tryz.prog 22 #[.pointer (some ⟨N.nb, 0, none⟩), .int .i64 0, .bool false] W3 fun e w' => e = .returned (.bool true) ∧ ∃ x'', AQ w0 N x U fr (k + 1) w' x'') := HA.out.step hq (by omega)
      clear hm
      go_wp2_with (first
        | (go_at_call 22; refine HS.out.mono ?_; rintro e w4 ⟨rfl, x'', a4⟩; have H4 : Hid (AQ w0 N x U fr (k + 1) w4 x'') := a4; clear a4))
      go_roundw
      case rel => exact ⟨k + 1, x'', by omega, by go_num, H4⟩
      case measure => simp [intOf]; omega
end Go.Proofs.YthdhegmlknpllabGreatDoor

/-
  A second whose letters all come; the walk of tetherkeep's Heals (4).
-/
namespace Go.Proofs.YthdhegmlknpllabGreatDoor
open Go.RowKit Go.Maps Go.MuLone

/-- Behind a second's questions. -/
def TK (w0 : World) (N : NC) (x : PS) (U : Int) (W : World) (x1 : PS) : Prop :=
  Net w0 W N x1 ∧ x1.ti = x.ti + 1 ∧ x1.ps.length = x.ps.length ∧ x1.q = x.q + 5 ∧ wts x1.way ≤ 12 ∧ Calm x1.ps x1.Rs x1.way (nwG x1.im.length) x1.ti U (fun i => ∃ p, x.ps[i]? = some p ∧ p.aw = 0 ∧ p.x = 0) ∧ x.im.length ≤ x1.im.length ∧ ((x.ti + 1) % N.c.ev = 0 → 0 < x1.im.length)
/-- Behind its letters. -/
def ScN (w0 : World) (N : NC) (x : PS) (U : Int) (W : World) (x2 : PS) : Prop :=
  Net w0 W N x2 ∧ Cl x2 U ∧ x2.ti = x.ti + 1 ∧ x2.q ≤ x.q + 41 ∧ x.im.length ≤ x2.im.length ∧ ((x.ti + 1) % N.c.ev = 0 → 0 < x2.im.length)
theorem tick_calm {w0 W : World} {N : NC} {x : PS} {U : Int} (h : Net w0 W N x) (c : Cl x U) (hq : x.q ≤ 600000) (ht : x.ti ≤ 900000) :
    Calls Tryz.prog 8 #[.pointer (some ⟨N.nb, 0, none⟩)] W fun e w' => e = .returned (.bool true) ∧ ∃ x1, TK w0 N x U w' x1 := by
  refine (ticks_any w0 N x W h hq ht).mono ?_
  rintro e w' ⟨rfl, S', ps', im', L, n, a, hl, hd⟩
  have hI := h.I
  rw [c.way] at hI
  have hle : x.im.length ≤ im'.length := by
    rcases hd with ⟨_, e⟩ | ⟨_, e⟩
    · omega
    · rw [e]; exact Nat.le_refl _
  have k := Calm.tock hI hle a c.un
  have hw : x.way ++ L = L := by rw [c.way]; rfl
  rw [hw] at n
  refine ⟨rfl, _, n, rfl, a.1, rfl, ?_, k, hle, fun e => ?_⟩
  · show wts L ≤ 12
    have := wts_le L
    omega
  · rcases hd with ⟨_, e2⟩ | ⟨e1, _⟩
    · show 0 < im'.length
      omega
    · exact absurd e e1
theorem arrive_calm {w0 W : World} {N : NC} {x x1 : PS} {U : Int} (c : Cl x U) (t : TK w0 N x U W x1) (hq : x.q ≤ 599990) :
    Calls Tryz.prog 9 #[.pointer (some ⟨N.nb, 0, none⟩)] W fun e w' => e = .returned (.bool true) ∧ ∃ x2, ScN w0 N x U w' x2 := by
  obtain ⟨n, e1, e2, e3, e4, k, e5, e6⟩ := t
  refine (arrives_any w0 N x1 U _ W n (by omega) k e4).mono ?_
  rintro e w' ⟨rfl, x2, n2, f1, f2, f3, f4, f5, k2⟩
  refine ⟨rfl, x2, n2, c.next n2 (by omega) (by omega) (by rw [f2, f1]; exact k2) f4, by omega, by omega, by rw [f2]; exact e5, by rw [f2]; exact e6⟩
theorem Net.has {w0 W : World} {N : NC} {x : PS} (h : Net w0 W N x) (hi : 0 < x.im.length) : 0 < x.S.ss.length := by
  have h1 := h.I.src.lst
  unfold nwG at h1
  rw [if_neg (by omega)] at h1
  obtain ⟨y, hy, _⟩ := lastG_mem (l := x.S.ss) (by omega)
  exact List.length_pos_of_mem hy
/-- Within so many seconds a snapshot is taken. -/
theorem some_due (T ev : Int) (h : 1 ≤ ev ∧ ev ≤ 6) : ∃ t, T < t ∧ t ≤ T + 6 ∧ t % ev = 0 := by
  obtain ⟨h1, h2⟩ := h
  rcases (by omega : ev = 1 ∨ ev = 2 ∨ ev = 3 ∨ ev = 4 ∨ ev = 5 ∨ ev = 6) with rfl | rfl | rfl | rfl | rfl | rfl
  · exact ⟨T + 1, by omega, by omega, by omega⟩
  · exact ⟨2 * (T / 2) + 2, by omega, by omega, by omega⟩
  · exact ⟨3 * (T / 3) + 3, by omega, by omega, by omega⟩
  · exact ⟨4 * (T / 4) + 4, by omega, by omega, by omega⟩
  · exact ⟨5 * (T / 5) + 5, by omega, by omega, by omega⟩
  · exact ⟨6 * (T / 6) + 6, by omega, by omega, by omega⟩
/-- Was one taken? -/
def Tkd (N : NC) (T : Int) (x : PS) : Prop := 0 < x.im.length ∨ ∀ t, T < t → t ≤ x.ti → t % N.c.ev ≠ 0
theorem Tkd.next {N : NC} {T : Int} {x x2 : PS} (h : Tkd N T x) (ht : x2.ti = x.ti + 1) (hl : x.im.length ≤ x2.im.length) (hn : (x.ti + 1) % N.c.ev = 0 → 0 < x2.im.length) : Tkd N T x2 := by
  rcases h with h | h
  · exact Or.inl (by omega)
  · by_cases e : (x.ti + 1) % N.c.ev = 0
    · exact Or.inl (hn e)
    · refine Or.inr (fun t h1 h2 => ?_)
      by_cases h3 : t = x.ti + 1
      · rw [h3]; exact e
      · exact h t h1 (by omega)
theorem Tkd.done {w0 W : World} {N : NC} {T : Int} {x : PS} (n : Net w0 W N x) (h : Tkd N T x) (ht : T + 6 ≤ x.ti) : 0 < x.im.length := by
  rcases h with h | h
  · exact h
  · obtain ⟨t, h1, h2, h3⟩ := some_due T N.c.ev n.C.ev
    exact absurd h3 (h t h1 (by omega))
/-- All letters are lost. -/
theorem Net.lost {w0 W : World} {N : NC} {x : PS} (h : Net w0 W N x) : Net w0 (W.setCell ⟨N.nb, 3, none⟩ (.slice none 0 0)) N ⟨x.S, x.ti, x.ps, x.im, x.Rs, [], x.q⟩ := by
  obtain ⟨rv, wv, iv, vs, M⟩ := h.m
  exact h.setWay (W9 := W) M (Fr.refl [] _) (by simp) (wv' := .slice none 0 0) (way' := []) (q' := x.q) (World.ownsRow_nil _ _ _ _) (h.I.sub (by simp) (by simp))
theorem Net.calm {w0 W : World} {N : NC} {x : PS} (h : Net w0 W N x) (hw : x.way = []) : Cl x (x.ti + N.c.mo) := by
  have h1 := h.C.wt
  refine ⟨hw, fun p hp ha => ?_, fun e => by omega, fun e => by omega⟩
  obtain ⟨i, R, _, _, o⟩ := h.I.peer_of hp
  exact o.un ha

/-- A net that heals, k seconds behind the trouble. -/
def HR (w0 : World) (N : NC) (T U : Int) (k : Nat) (W : World) (x : PS) : Prop :=
  Net w0 W N x ∧ Cl x U ∧ x.ti = T + k ∧ x.q ≤ 6000 + 41 * k ∧ Tkd N T x
theorem HR.next {w0 W W' : World} {N : NC} {T U : Int} {k : Nat} {x x2 : PS} (h : HR w0 N T U k W x) (s : ScN w0 N x U W' x2) : HR w0 N T U (k + 1) W' x2 := by
  obtain ⟨_, _, e1, e2, d⟩ := h
  obtain ⟨n2, c2, f1, f2, f3, f4⟩ := s
  exact ⟨n2, c2, by omega, by omega, d.next f1 f3 f4⟩

set_option maxRecDepth 100000 in
set_option maxHeartbeats 1600000 in
theorem heals_any (w : World) (raw peers every wait last : Int) (ao : Option Addr) (zs : List Int) (cap : Nat) (h1 : In64 raw) (h2 : In64 peers) (h3 : In64 every) (h4 : In64 wait) (h5 : In64 last) (hr : RowB w.heap.size w ao zs cap) (hz : Bnd zs) :
    Calls Tryz.prog 4 #[.int .i64 raw, .int .i64 peers, .int .i64 every, .int .i64 wait, .int .i64 last, .slice ao zs.length cap] w fun e w' => e = .returned (.bool true) ∧ Below w.heap.size w w' := by
  have HS : Hid (∀ W, W = w → Calls Tryz.prog 6 #[.int .i64 raw, .int .i64 peers, .int .i64 every, .int .i64 wait, .int .i64 last] W fun e w' => ∃ (N : NC) (x : PS), e = .returned (.pointer (some ⟨N.nb, 0, none⟩)) ∧ Net w w' N x ∧ x.q ≤ 10 ∧ x.ti = 0 ∧ x.way = [] ∧ x.im = [] ∧ (∀ p ∈ x.ps, p = Pe.zero) ∧ N.c.mo ≤ 48) := fun W hW => by subst hW; exact start_any W raw peers every wait last h1 h2 h3 h4 h5
  have HB : Hid (RowB w.heap.size w ao zs cap ∧ Bnd zs) := ⟨hr, hz⟩
  clear h1 h2 h3 h4 h5 hr hz
  go_enter Tryz.func4, Tryz.ntmps4
  go_wp2_with (first
    | (go_at_call 6; refine (HS.out _ rfl).mono ?_; rintro e w1 ⟨N, x, rfl, n1, q1, t1, _, _, _, mo1⟩; have H1 : Hid (Net w w1 N x ∧ x.q ≤ 10 ∧ x.ti = 0 ∧ N.c.mo ≤ 48) := ⟨n1, q1, t1, mo1⟩; clear n1 q1 t1 mo1)
    | (go_at_call 7; refine (lossy_any w N x ao zs cap w1 H1.out.1 HB.out.1 HB.out.2 H1.out.2.1 H1.out.2.2.1).mono ?_; rintro e w2 ⟨rfl, x2, n2, q2, t2⟩; have H2 : Hid (Net w w2 N x2 ∧ x2.q ≤ 6000 ∧ x2.ti ≤ 1000) := ⟨n2, q2, t2⟩; obtain ⟨c23, z23⟩ : (∃ v, w2.cell? ⟨N.nb, 3, none⟩ = some v) ∧ w2.frozen? ⟨N.nb, 3, none⟩ = false := (by obtain ⟨rv, wv, iv, vs, M⟩ := n2.m; exact ⟨⟨_, M.cells.2.2.2.1⟩, M.cells.2.2.2.2.2.1⟩); obtain ⟨v23, c23⟩ := c23; clear n2 q2 t2))
  obtain ⟨W3, hW3⟩ : ∃ W3, w2.setCell ⟨N.nb, 3, none⟩ (.slice none 0 0) = W3 := ⟨_, rfl⟩
  obtain ⟨T, hT⟩ : ∃ T, x2.ti = T := ⟨_, rfl⟩
  have hT2 : 0 ≤ T ∧ T ≤ 1000 := by have h8 := H2.out.1.C.tm; have h9 := H2.out.2.2; omega
  have H3 : Hid (∃ x3, HR w N T (T + N.c.mo) 0 W3 x3) := by
    have n3 := H2.out.1.lost
    rw [hW3] at n3
    have c3 := n3.calm rfl
    refine ⟨_, n3, by rw [← hT]; exact c3, by simp [hT], by have := H2.out.2.1; simp; omega, Or.inr (fun t h1 h2 => ?_)⟩
    simp [hT] at h2
    omega
  have hmo : N.c.mo ≤ 48 := H1.out.2.2.2
  rw [hW3]
  clear hW3 hT
  go_loopw [15] (fun i wr => ∃ (k : Nat) (x3 : PS), k ≤ 130 ∧ i = .int .i64 k ∧ Hid (HR w N T (T + N.c.mo) k wr x3)) (fun i _ => 130 - (intOf i).toNat)
  case atStart =>
    obtain ⟨x3, h8⟩ := H3.out
    exact ⟨0, x3, by omega, rfl, h8⟩
  case round =>
    obtain ⟨k, x3, hk, rfl, HK⟩ := hrel
    obtain ⟨W4, hW4⟩ : ∃ W4, W4 = wr := ⟨_, rfl⟩
    subst hW4
    by_cases hlt : k < 130
    · have hltz : (k : Int) < 130 := by omega
      have HTi : Hid (Calls Tryz.prog 8 #[.pointer (some ⟨N.nb, 0, none⟩)] W4 fun e w' => e = .returned (.bool true) ∧ ∃ x1, TK w N x3 (T + N.c.mo) w' x1) := by
        have h8 := HK.out.2.2.1
        have h9 := HK.out.2.2.2.1
        exact tick_calm HK.out.1 HK.out.2.1 (by omega) (by omega)
      have HAr : Hid (∀ W x1, TK w N x3 (T + N.c.mo) W x1 → Calls Tryz.prog 9 #[.pointer (some ⟨N.nb, 0, none⟩)] W fun e w' => e = .returned (.bool true) ∧ ∃ x2, ScN w N x3 (T + N.c.mo) w' x2) := fun W x1 t => by
        have h9 := HK.out.2.2.2.1
        exact arrive_calm HK.out.2.1 t (by omega)
      go_wp2_with (first
        | (go_at_call 8; refine HTi.out.mono ?_; rintro e w5 ⟨rfl, x5, t5⟩; have H5 : Hid (TK w N x3 (T + N.c.mo) w5 x5) := t5; clear t5)
        | (go_at_call 9; refine (HAr.out _ x5 H5.out).mono ?_; rintro e w6 ⟨rfl, x6, s6⟩; have H6 : Hid (HR w N T (T + N.c.mo) (k + 1) w6 x6) := HK.out.next s6; clear s6))
      go_roundw
      case rel => exact ⟨k + 1, x6, by omega, by go_num, H6⟩
      case measure => simp [intOf]; omega
    · have hkk : k = 130 := by omega
      subst hkk
      obtain ⟨n3, c3, t3, q3, d3⟩ := HK.out
      have hst := c3.still (by omega)
      have hkn := c3.kn (by omega)
      have him := d3.done n3 (by omega)
      have HSm : Hid (∀ (i : Nat) (p : Pe) (R : Sto), x3.ps[i]? = some p → x3.Rs[i]? = some R → p.k = lastG x3.S.ss ∧ lastG R.ss = lastG x3.S.ss) := Cl.same n3 hst hkn
      have HN3 : Hid (Net w W4 N x3) := n3
      have q3' : x3.q ≤ 700000 := by omega
      obtain ⟨m, hm⟩ : ∃ m, x3.S.ss.length = m := ⟨_, rfl⟩
      have hm0 : 0 < m := by rw [← hm]; exact n3.has him
      have hmz : (0 : Int) < (m : Int) := by omega
      have hm12 : m ≤ 12 := by rw [← hm]; exact n3.I.src.len
      have HM : Hid (x3.S.ss.length = m) := hm
      clear n3 c3 t3 d3 hst hkn him hm
      go_wp2_with (first
        | (go_at_call 10; refine (same_any w N x3 _ HN3.out HSm.out).mono ?_; rintro e w7 ⟨rfl, n7⟩; have H7 : Hid (Net w w7 N x3) := n7; clear n7)
        | (go_at_call 11; refine (based_any w N x3 _ H7.out).mono ?_; rintro e w8 ⟨rfl, n8⟩; have H8 : Hid (Net w w8 N x3) := n8; clear n8)
        | (go_at_call 12; refine (right_any w N x3 _ H8.out q3').mono ?_; rintro e w9 ⟨rfl, n9⟩; have H9 : Hid (∃ rv wv iv vs, NQ w N x3 rv wv iv vs w9 w9) := (by obtain ⟨rv, wv, iv, vs, M⟩ := n9.m; exact ⟨rv, wv, iv, vs, NQ.start n9 M⟩); obtain ⟨rv9, wv9, iv9, vs9, g9⟩ := H9.out; have G9 : Hid (NQ w N x3 rv9 wv9 iv9 vs9 w9 w9) := g9; have n90 := g9.1.cells.1; clear n9 g9)
        | (go_at_call 13; refine (nq_store (W' := w9) G9.out).mono ?_; rintro e w' ⟨rfl, hw'⟩; have hw'' := hw'.symm; subst hw'')
        | (go_at_call 14; refine (nq_snaps (W' := w9) G9.out).mono ?_; rintro e wA ⟨gA, rfl, bA, qA⟩; rw [HM.out]; have HZ : Hid (Below w.heap.size w wA) := qA.2.1.be; clear qA bA))
      go_ret
      exact ⟨rfl, HZ.out⟩
end Go.Proofs.YthdhegmlknpllabGreatDoor

/-
  The walk of tetherkeep's Prompt (5).
-/
namespace Go.Proofs.YthdhegmlknpllabGreatDoor
open Go.RowKit Go.Maps Go.MuLone

/-- A net that was never in trouble, k seconds on. -/
def PR (w0 : World) (N : NC) (k : Nat) (W : World) (x : PS) : Prop :=
  Net w0 W N x ∧ x.way = [] ∧ (∀ p ∈ x.ps, p.aw = 0 ∧ p.x = 0) ∧ x.ti = k ∧ x.q ≤ 10 + 42 * k ∧ Tkd N 0 x
/-- So, a block perhaps written. -/
def PRw (w0 : World) (N : NC) (k : Nat) (W : World) (x : PS) : Prop :=
  Net w0 W N x ∧ x.way = [] ∧ (∀ p ∈ x.ps, p.aw = 0 ∧ p.x = 0) ∧ x.ti = k ∧ x.q ≤ 11 + 42 * k ∧ Tkd N 0 x
theorem PR.w {w0 W : World} {N : NC} {k : Nat} {x : PS} (h : PR w0 N k W x) : PRw w0 N k W x := ⟨h.1, h.2.1, h.2.2.1, h.2.2.2.1, by have := h.2.2.2.2.1; omega, h.2.2.2.2.2⟩
theorem PRw.cl {w0 W : World} {N : NC} {k : Nat} {x : PS} (h : PRw w0 N k W x) : Cl x x.ti := ⟨h.2.1, fun p hp e => absurd (h.2.2.1 p hp).1 e, fun _ => h.2.2.1, fun e => by omega⟩
/-- Behind a second: each replica has what the source took last. -/
theorem PRw.next {w0 W W' : World} {N : NC} {k : Nat} {x x2 : PS} (h : PRw w0 N k W x) (s : ScN w0 N x x.ti W' x2) : PR w0 N (k + 1) W' x2 ∧ (∀ p ∈ x2.ps, p.k = nwG x2.im.length) := by
  obtain ⟨_, _, _, e1, e2, d⟩ := h
  obtain ⟨n2, c2, f1, f2, f3, f4⟩ := s
  exact ⟨⟨n2, c2.way, c2.still (by omega), by omega, by omega, d.next f1 f3 f4⟩, c2.kn (by omega)⟩
theorem PR.world {w0 W W' : World} {N : NC} {k : Nat} {x : PS} (h : PR w0 N k W x) (n : Net w0 W' N x) : PR w0 N k W' x := ⟨n, h.2⟩
theorem PR.write {w0 W : World} {N : NC} {k : Nat} {x : PS} (h : PR w0 N k W x) (hk : k ≤ 60) (b : Nat) (hb : b < N.n) (y : B4) : Calls Tryz.prog 15 #[.pointer (some ⟨N.c.b, 0, none⟩), .int .i64 b, y.str] W fun e w' => e = .returned (.int .i64 0) ∧ ∃ x', PRw w0 N k w' x' := by
  obtain ⟨n, e1, e2, e3, e4, e5⟩ := h
  refine (net_write n b hb y (by omega)).mono ?_
  rintro e w' ⟨rfl, S', n', _⟩
  exact ⟨rfl, _, n', e1, e2, e3, by show x.q + 1 ≤ _; omega, e5⟩
/-- Behind a second whose letters all came. -/
def PS2 (w0 : World) (N : NC) (k : Nat) (W : World) (x : PS) : Prop :=
  PR w0 N k W x ∧ ∀ (i : Nat) (p : Pe) (R : Sto), x.ps[i]? = some p → x.Rs[i]? = some R → p.k = lastG x.S.ss ∧ lastG R.ss = lastG x.S.ss
theorem pr_ticks {w0 W : World} {N : NC} {k : Nat} {x : PS} (h : PRw w0 N k W x) (hk : k ≤ 60) : Calls Tryz.prog 8 #[.pointer (some ⟨N.nb, 0, none⟩)] W fun e w' => e = .returned (.bool true) ∧ ∃ x1, TK w0 N x x.ti w' x1 :=
  tick_calm h.1 h.cl (by have := h.2.2.2.2.1; omega) (by have := h.2.2.2.1; omega)
theorem pr_arrives {w0 W W1 : World} {N : NC} {k : Nat} {x x1 : PS} (h : PRw w0 N k W x) (hk : k ≤ 60) (t : TK w0 N x x.ti W1 x1) : Calls Tryz.prog 9 #[.pointer (some ⟨N.nb, 0, none⟩)] W1 fun e w' => e = .returned (.bool true) ∧ ∃ x2, PS2 w0 N (k + 1) w' x2 := by
  refine (arrive_calm h.cl t (by have := h.2.2.2.2.1; omega)).mono ?_
  rintro e w' ⟨rfl, x2, s⟩
  obtain ⟨a, b⟩ := h.next s
  exact ⟨rfl, x2, a, Cl.same a.1 a.2.2.1 b⟩
theorem pr_same {w0 W : World} {N : NC} {k : Nat} {x : PS} (h : PS2 w0 N k W x) : Calls Tryz.prog 10 #[.pointer (some ⟨N.nb, 0, none⟩)] W fun e w' => e = .returned (.bool true) ∧ PR w0 N k w' x :=
  (same_any w0 N x W h.1.1 h.2).mono fun _ _ ⟨e1, n⟩ => ⟨e1, h.1.world n⟩
theorem pr_right {w0 W : World} {N : NC} {k : Nat} {x : PS} (h : PR w0 N k W x) (hk : k ≤ 100) : Calls Tryz.prog 12 #[.pointer (some ⟨N.nb, 0, none⟩)] W fun e w' => e = .returned (.bool true) ∧ PR w0 N k w' x :=
  (right_any w0 N x W h.1 (by have := h.2.2.2.2.1; omega)).mono fun _ _ ⟨e1, n⟩ => ⟨e1, h.world n⟩

set_option maxRecDepth 100000 in
set_option maxHeartbeats 3200000 in
theorem prompt_any (w : World) (raw peers every wait last : Int) (ao : Option Addr) (zs : List Int) (cap : Nat) (h1 : In64 raw) (h2 : In64 peers) (h3 : In64 every) (h4 : In64 wait) (h5 : In64 last) (hr : RowB w.heap.size w ao zs cap) (hz : Bnd zs) :
    Calls Tryz.prog 5 #[.int .i64 raw, .int .i64 peers, .int .i64 every, .int .i64 wait, .int .i64 last, .slice ao zs.length cap] w fun e w' => e = .returned (.bool true) ∧ Below w.heap.size w w' := by
  have HS : Hid (∀ W, W = w → Calls Tryz.prog 6 #[.int .i64 raw, .int .i64 peers, .int .i64 every, .int .i64 wait, .int .i64 last] W fun e w' => ∃ (N : NC) (x : PS), e = .returned (.pointer (some ⟨N.nb, 0, none⟩)) ∧ Net w w' N x ∧ x.q ≤ 10 ∧ x.ti = 0 ∧ x.way = [] ∧ x.im = [] ∧ (∀ p ∈ x.ps, p = Pe.zero) ∧ N.c.mo ≤ 48) := fun W hW => by subst hW; exact start_any W raw peers every wait last h1 h2 h3 h4 h5
  have HB : Hid (RowB w.heap.size w ao zs cap ∧ Bnd zs) := ⟨hr, hz⟩
  clear h1 h2 h3 h4 h5 hr hz
  go_enter Tryz.func5, Tryz.ntmps5
  go_wp2_with (first
    | (go_at_call 6; refine (HS.out _ rfl).mono ?_; rintro e w1 ⟨N, x, rfl, n1, q1, t1, y1, i1, z1, mo1⟩; have H1 : Hid (PR w N 0 w1 x) := ⟨n1, y1, (fun p hp => by rw [z1 p hp]; exact ⟨rfl, rfl⟩), t1, (by omega), Or.inr (fun t h1 h2 => by omega)⟩; clear n1 q1 t1 mo1 y1 i1 z1))
  go_loopw [14] (fun i wr => ∃ (k : Nat) (x : PS), k ≤ 60 ∧ i = .int .i64 k ∧ Hid (PR w N k wr x)) (fun i _ => 60 - (intOf i).toNat)
  case atStart => exact ⟨0, x, by omega, rfl, H1⟩
  case round =>
    obtain ⟨k, x, hk, rfl, HK⟩ := hrel
    obtain ⟨W3, hW3⟩ : ∃ W3, W3 = wr := ⟨_, rfl⟩
    subst hW3
    by_cases hlt : k < 60
    · have hltz : (k : Int) < 60 := by omega
      by_cases hwr : k < zs.length
      · have hwrz : (k : Int) < (zs.length : Int) := by omega
        have k0 : (0 : Int) ≤ (k : Int) := by omega
        obtain ⟨rb, off, hao, hrb, hc⟩ := (rowB_net HB.out.1 HK.out.1.be).2 (by omega)
        have d1 : W3.cell? ⟨rb, off + k, none⟩ = some (.int .i64 (tm zs k)) := hc k hwr
        have hx := HB.out.2 k hwr
        obtain ⟨z, hzz⟩ : ∃ z, tm zs k = z := ⟨_, rfl⟩
        rw [hzz] at d1 hx
        subst hao
        have hcap : zs.length ≤ cap := HB.out.1.1
        obtain ⟨n, hn⟩ : ∃ n, N.n = n := ⟨_, rfl⟩
        have HN : Hid (N.n = n) := hn
        have hn4 := HK.out.1.I.n1
        rw [hn] at hn4
        have q2 : ¬ ((n : Int) = 0) := by omega
        have q3 : ¬ n = 0 := by omega
        have q4 : (n == 0) = false := by simpa using q3
        have hpl := pk_lt z n (by omega)
        obtain ⟨b, hb⟩ : ∃ b : Nat, pk z n = (b : Int) := ⟨(pk z n).toNat, by omega⟩
        have HP : Hid (∀ W, Calls Tryz.prog 16 #[.int .i64 z, .int .i64 n] W fun e w' => e = .returned (.int .i64 b) ∧ w' = W) := fun W => by rw [← hb]; exact pick_any z n W hx (by omega) (by omega)
        rw [hb] at hpl
        have hbn : b < n := by omega
        have hdz : In64 (z.tdiv n) := tdiv_ok hx (by omega)
        have hDw : IntKind.i64.wrap (z.tdiv n) = z.tdiv n := wrap_fit hdz
        have HDa : Hid (∀ W, Fr [] W3 W → Calls Tryz.prog 17 #[.int .i64 (z.tdiv n)] W fun e w' => ∃ x : B4, e = .returned x.str ∧ Fr [] W3 w') := fun W hW => (data_any _ W hdz).mono fun e w' ⟨y, e1, f⟩ => ⟨y, e1, hW.trans f (by simp)⟩
        have HWr : Hid (∀ (W : World) (y : B4), Fr [] W3 W → Calls Tryz.prog 15 #[.pointer (some ⟨N.c.b, 0, none⟩), .int .i64 b, y.str] W fun e w' => e = .returned (.int .i64 0) ∧ ∃ x', PRw w N k w' x') := fun W y hW => (HK.out.world (HK.out.1.same hW)).write (by omega) b (by rw [HN.out]; exact hbn) y
        have HSt : Hid (∀ W, Fr [] W3 W → Calls Tryz.prog 13 #[.pointer (some ⟨N.c.xb, 0, none⟩)] W fun e w' => e = .returned (.pointer (some ⟨N.c.b, 0, none⟩)) ∧ w' = W) := fun W hW => by
          obtain ⟨rv, wv, iv, vs, M⟩ := (HK.out.1.same hW).m
          exact store_s M.sk.sc
        have HNb : Hid (∀ W, Fr [] W3 W → W.cell? ⟨N.nb, 0, none⟩ = some (.pointer (some ⟨N.c.xb, 0, none⟩)) ∧ W.cell? ⟨N.nb, 2, none⟩ = some (.int .i64 n) ∧ W.cell? ⟨rb, off + k, none⟩ = some (.int .i64 z)) := fun W hW => by
          obtain ⟨rv, wv, iv, vs, M⟩ := (HK.out.1.same hW).m
          have h8 := M.cells
          rw [hn] at h8
          exact ⟨h8.1, h8.2.2.1, hW.gb.cell d1 (by simp)⟩
        have c0 : w.cell? ⟨rb, off + k, none⟩ = some (.int .i64 z) := (World.cell?_of_block (HK.out.1.be.block rb hrb)).symm.trans d1
        have HNc : Hid (∀ W x', PRw w N k W x' → W.cell? ⟨N.nb, 0, none⟩ = some (.pointer (some ⟨N.c.xb, 0, none⟩)) ∧ W.cell? ⟨N.nb, 2, none⟩ = some (.int .i64 n) ∧ W.cell? ⟨rb, off + k, none⟩ = some (.int .i64 z)) := fun W x' hW => by
          obtain ⟨rv, wv, iv, vs, M⟩ := hW.1.m
          have h8 := M.cells
          rw [hn] at h8
          exact ⟨h8.1, h8.2.2.1, (World.cell?_of_block (hW.1.be.block rb hrb)).trans c0⟩
        obtain ⟨n0, n2, _⟩ := HNb.out W3 (Fr.refl _ _)
        clear hn hc hzz hb c0
        go_wp2
        go_region_held3 (fun w' => w'.cell? ⟨N.nb, 0, none⟩ = some (.pointer (some ⟨N.c.xb, 0, none⟩)) ∧ w'.cell? ⟨N.nb, 2, none⟩ = some (.int .i64 n) ∧ w'.cell? ⟨rb, off + k, none⟩ = some (.int .i64 z))
          (first
            | exact ⟨n05, n25, nr5⟩
            | go_keep)
          (first
            | (go_at_call 13; refine (HSt.out _ (by first | exact Fr.refl _ _ | exact (Fr.refl _ _).drew | exact (Fr.refl _ _).drewN _)).mono ?_; rintro e w' ⟨rfl, hw'⟩; have hw'' := hw'.symm; subst hw'')
            | (go_at_call 16; refine (HP.out _).mono ?_; rintro e w' ⟨rfl, hw'⟩; have hw'' := hw'.symm; subst hw'')
            | (go_at_call 17; (try rw [hDw]); refine (HDa.out _ ((Fr.refl [] W3).drew)).mono ?_; rintro e w5 ⟨y, rfl, f5⟩; have F5 : Hid (Fr [] W3 w5) := f5; obtain ⟨n05, n25, nr5⟩ := HNb.out w5 F5.out; clear f5)
            | (go_at_call 15; refine (HWr.out _ y F5.out).mono ?_; rintro e w7 ⟨rfl, x', n7⟩; have HKw : Hid (PRw w N k w7 x') := n7; obtain ⟨n05, n25, nr5⟩ := (HNc.out w7 x' n7); clear n7))
        all_goals
          go_wp2_with (first
            | (go_at_call 8; refine (pr_ticks HKw.out (by omega)).mono ?_; rintro e w8 ⟨rfl, x5, t5⟩; have H5 : Hid (TK w N x' x'.ti w8 x5) := t5; clear t5)
            | (go_at_call 9; refine (pr_arrives HKw.out (by omega) H5.out).mono ?_; rintro e w6 ⟨rfl, x6, s6⟩; have H6 : Hid (PS2 w N (k + 1) w6 x6) := s6; clear s6)
            | (go_at_call 10; refine (pr_same H6.out).mono ?_; rintro e wA ⟨rfl, s7⟩; have H7 : Hid (PR w N (k + 1) wA x6) := s7; clear s7)
            | (go_at_call 12; refine (pr_right H7.out (by omega)).mono ?_; rintro e wB ⟨rfl, s8⟩; have H8 : Hid (PR w N (k + 1) wB x6) := s8; clear s8))
          go_roundw
          case rel => exact ⟨k + 1, x6, by omega, by go_num, H8⟩
          case measure => simp [intOf]; omega
      · have hwrz : ¬ (k : Int) < (zs.length : Int) := by omega
        have HKw : Hid (PRw w N k W3 x) := HK.out.w
        go_wp2_with (first
          | (go_at_call 8; refine (pr_ticks HKw.out (by omega)).mono ?_; rintro e w5 ⟨rfl, x5, t5⟩; have H5 : Hid (TK w N x x.ti w5 x5) := t5; clear t5)
          | (go_at_call 9; refine (pr_arrives HKw.out (by omega) H5.out).mono ?_; rintro e w6 ⟨rfl, x6, s6⟩; have H6 : Hid (PS2 w N (k + 1) w6 x6) := s6; clear s6)
          | (go_at_call 10; refine (pr_same H6.out).mono ?_; rintro e w7 ⟨rfl, s7⟩; have H7 : Hid (PR w N (k + 1) w7 x6) := s7; clear s7)
          | (go_at_call 12; refine (pr_right H7.out (by omega)).mono ?_; rintro e w8 ⟨rfl, s8⟩; have H8 : Hid (PR w N (k + 1) w8 x6) := s8; clear s8))
        go_roundw
        case rel => exact ⟨k + 1, x6, by omega, by go_num, H8⟩
        case measure => simp [intOf]; omega
    · have hkk : k = 60 := by omega
      subst hkk
      obtain ⟨n3, y3, s3, t3, q3, d3⟩ := HK.out
      have him := d3.done n3 (by omega)
      obtain ⟨rv, wv, iv, vs, M⟩ := n3.m
      obtain ⟨ia, ic, hiv⟩ := own_shape M.io
      obtain ⟨m, hm⟩ : ∃ m, x.im.length = m := ⟨_, rfl⟩
      have n4 := M.cells.2.2.2.2.1
      rw [hiv, hm] at n4
      rw [hm] at him
      have hmz : (0 : Int) < (m : Int) := by omega
      have HZ : Hid (Below w.heap.size w W3) := n3.be
      clear n3 y3 s3 t3 q3 d3 M hiv hm
      go_wp2
      go_ret
      exact ⟨rfl, HZ.out⟩
end Go.Proofs.YthdhegmlknpllabGreatDoor
