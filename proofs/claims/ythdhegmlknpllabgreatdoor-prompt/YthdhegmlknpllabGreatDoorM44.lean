import Derived.Test.YthdhegmlknpllabGreatDoorM43
import Derived.Laws.ResultCell
import Derived.Test.YthdhegmlknpllabGreatDoorM37
/-
  The walk of node's Source.Tick (23), where the net is as it must be.
-/
namespace Go.Proofs.YthdhegmlknpllabGreatDoor
open Go.RowKit Go.Maps Go.MuLone

/-- Letters, as the law has them. -/
def lts (n : Nat) (L : List (Nat × Lt)) : List (Nat × ByteArray) := L.map fun m => (m.1, m.2.txt m.1 n)

/-- A source within the net. -/
structure TkS (c : SCfg) (w W : World) (S S1 : Sto) (ti : Int) (ps : List Pe) (n : Nat) (im : List Img) (Rs : List Sto) (way : List (Nat × Lt)) (T : Int) (q : Nat) : Prop where
  ss : SS c w W S S1 ti ps
  I : NInv n S1 ps im Rs way T q
  vol : S1.vol = S.vol
section
variable {c : SCfg} {w W W' : World} {S S1 : Sto} {ti : Int} {ps : List Pe} {n : Nat} {im : List Img} {Rs : List Sto} {way : List (Nat × Lt)} {T : Int} {q : Nat}
theorem TkS.same (h : TkS c w W S S1 ti ps n im Rs way T q) (hf : Fr [] W W') : TkS c w W' S S1 ti ps n im Rs way T q := ⟨h.ss.same hf, h.I, h.vol⟩

theorem tk_thin (C : CfOk c ti T) (h : TkS c w W S S1 ti ps n im Rs way T q) (hq : q ≤ 800000) :
    Calls Tryz.prog 40 #[.pointer (some ⟨c.xb, 0, none⟩), .int .i64 ti] W fun e w' => e = .returned (.tuple #[]) ∧ ∃ S2, TkS c w w' S S2 ti ps n im Rs way T (q + 1) ∧ S2.ss.length < 12 := by
  have s := h.I.src
  have rk := h.ss.sk.rk
  have hlg := h.I.lg
  have hn := h.I.n1
  have htm := C.tm
  have hla := C.last
  have hnq := h.I.nq
  refine (thin_any c.B c.b c.xb c.RB S1 c.last ti c.ra c.rs c.rc W rk.rep rk.kp rk.kn rk.ru C.rs ⟨by omega, by omega⟩ ⟨by omega, by omega⟩ s.len (by rw [s.vol]; omega) s.nd (fun x hx => ?_) (fun x hx => ?_) (by omega)).mono ?_
  · have := (s.sn x hx).1
    have a1 := this.1
    have a2 := this.2
    exact ⟨by omega, by omega⟩
  · obtain ⟨a1, a2, a3⟩ := s.sn x hx
    rw [a3]
    unfold tI imOf
    have b1 := a1.1
    have b2 := a1.2
    have hl : (x.guid - 1000001).toNat < im.length := by omega
    rw [List.getD_eq_getElem?_getD, List.getElem?_eq_getElem hl]
    exact (s.ib _ (List.getElem_mem hl)).2
  · rintro e w' ⟨rfl, P⟩
    obtain ⟨s2, Z, rk2, f2, t2, hz, hzl, hroom⟩ := P.out s.len (fun e => h.I.room e)
    exact ⟨rfl, s2, ⟨h.ss.step rk2.rep f2 t2.ft, h.I.thin t2 hz hzl, t2.vol.trans h.vol⟩, hroom⟩

theorem tk_snap (C : CfOk c ti T) (h : TkS c w W S S1 ti ps n im Rs way T q) (hq : q ≤ 800000) (hlen : S1.ss.length < 12) :
    Calls Tryz.prog 41 #[.pointer (some ⟨c.b, 0, none⟩), .int .i64 ti] W fun e w' => ∃ g : Int, e = .returned (.tuple #[.int .i64 g, .int .i64 0]) ∧ ∃ S2, TkS c w w' S S2 ti ps n (im ++ [⟨ti, S.vol.map Ct.x⟩]) Rs way T (q + 1) := by
  have s := h.I.src
  have hlg := h.I.lg
  have hn := h.I.n1
  have htm := C.tm
  have hnq := h.I.nq
  have hcn := h.I.cn
  have hml := h.I.marks
  refine (snap_ok c.B c.b S1 ti W h.ss.sk.rep ⟨by omega, by omega⟩ (by rw [s.id]; omega) (by rw [s.tk]; omega) h.I.free hlen (by omega) (by rw [s.cm]; omega) (by rw [s.vol]; omega) (by rw [s.vol]; unfold maxLen; omega) (by omega)).mono ?_
  rintro e w' ⟨rfl, sv, lv, r, f, t1, t2⟩
  refine ⟨_, rfl, _, ⟨h.ss.step r f (snap_foot t1 t2), ?_, h.vol⟩⟩
  have := h.I.snap ti ⟨by omega, by omega⟩ hlen sv 83 (n4 ti).ba lv (by show 4 ≤ 900; omega)
  rw [h.vol] at this
  exact this

theorem tk_newest (h : TkS c w W S S1 ti ps n im Rs way T q) :
    Calls Tryz.prog 36 #[.pointer (some ⟨c.xb, 0, none⟩)] W fun e w' => e = .returned (.int .i64 (nwG im.length)) ∧ TkS c w w' S S1 ti ps n im Rs way T q := by
  have s := h.I.src
  rw [← s.lst]
  refine (newest_any c.B c.b c.xb S1 c.last _ W h.ss.sk.rep s.len h.ss.sk.rk.kp).mono ?_
  rintro e w' ⟨rfl, r, f⟩
  exact ⟨rfl, h.ss.step r f (fun k hk => Or.inl hk), h.I, h.vol⟩

/-- Is a peer due? -/
def dueB (p : Pe) (ti nw : Int) : Bool := if p.aw = 0 then (decide (nw ≠ 0) && decide (nw ≠ p.k) && decide (nw ≠ p.g)) else decide (p.un ≤ ti)
theorem dueB_iff (p : Pe) (ti nw : Int) : dueB p ti nw = true ↔ Due p ti nw := by
  unfold dueB Due
  by_cases h : p.aw = 0
  · rw [if_pos h, if_pos h]
    simp [and_assoc]
  · rw [if_neg h, if_neg h]
    simp

/-- The second's questions, as far as peer k. -/
structure TkL (c : SCfg) (w W : World) (S S1 : Sto) (ti : Int) (ps ps' : List Pe) (n : Nat) (im : List Img) (Rs : List Sto) (way L : List (Nat × Lt)) (T : Int) (q k : Nat) (v : Value) : Prop where
  a : Asked ps ps' L ti (nwG im.length) k
  t : TkS c w W S S1 ti ps' n im Rs (way ++ L) T (q + k)
  o : W.ownsRow w.heap.size 115 2 v L.length (ltC (lts n L))
  l : L.length ≤ k
theorem TkL.same {ps' : List Pe} {L : List (Nat × Lt)} {k : Nat} {v : Value} (h : TkL c w W S S1 ti ps ps' n im Rs way L T q k v) (hf : Fr [] W W') : TkL c w W' S S1 ti ps ps' n im Rs way L T q k v := ⟨h.a, h.t.same hf, own_fr' h.o hf, h.l⟩
theorem TkL.no {ps' : List Pe} {L : List (Nat × Lt)} {k : Nat} {v : Value} (h : TkL c w W S S1 ti ps ps' n im Rs way L T q k v) {p : Pe} (hp : ps[k]? = some p) (hd : dueB p ti (nwG im.length) = false) : TkL c w W S S1 ti ps ps' n im Rs way L T q (k + 1) v :=
  ⟨h.a.no hp (fun e => by rw [(dueB_iff _ _ _).2 e] at hd; cases hd), ⟨h.t.ss, h.t.I.le (by omega) (Int.le_refl T), h.t.vol⟩, h.o, by have := h.l; omega⟩

theorem tl_due {ps' : List Pe} {L : List (Nat × Lt)} {k : Nat} {v : Value} (h : TkL c w W S S1 ti ps ps' n im Rs way L T q k v) {p : Pe} (hp : ps[k]? = some p) :
    Calls Tryz.prog 42 #[.pointer (some ⟨c.pb, k * 7, none⟩), .int .i64 ti, .int .i64 (nwG im.length)] W fun e w' => e = .returned (.bool (dueB p ti (nwG im.length))) ∧ Fr [] W w' := by
  have h1 := h.a.at hp
  have hk : k < ps'.length := (List.getElem?_eq_some_iff.1 h1).1
  have P := h.t.ss.sk.pc k hk
  rw [(List.getElem?_eq_some_iff.1 h1).2] at P
  exact isDue_any P ti _

/-- One is asked; the letter is not yet laid. -/
structure TkA (c : SCfg) (w W : World) (S S1 : Sto) (ti : Int) (ps ps' : List Pe) (n : Nat) (im : List Img) (Rs : List Sto) (way L : List (Nat × Lt)) (T : Int) (q k : Nat) (v : Value) (p : Pe) : Prop where
  a : Asked ps ps' (L ++ [(k, .ask (p.num + 1))]) ti (nwG im.length) (k + 1)
  t : TkS c w W S S1 ti ps' n im Rs (way ++ (L ++ [(k, .ask (p.num + 1))])) T (q + (k + 1))
  o : W.ownsRow w.heap.size 115 2 v L.length (ltC (lts n L))
  l : L.length ≤ k
theorem tl_ask (C : CfOk c ti T) {ps' : List Pe} {L : List (Nat × Lt)} {k : Nat} {v : Value} (h : TkL c w W S S1 ti ps ps' n im Rs way L T q k v) {p : Pe} (hp : ps[k]? = some p) (hd : dueB p ti (nwG im.length) = true) (hq : q + k ≤ 800000) :
    Calls Tryz.prog 43 #[.pointer (some ⟨c.xb, 0, none⟩), .int .i64 k] W fun e w' => e = .returned (.agg #[.int .i64 k, .string (Lt.txt k n (.ask (p.num + 1)))]) ∧ ∃ ps'', TkA c w w' S S1 ti ps ps'' n im Rs way L T q k v p := by
  have h1 := h.a.at hp
  have hk : k < ps'.length := (List.getElem?_eq_some_iff.1 h1).1
  have hkr : k < Rs.length := by rw [h.t.I.rl]; exact hk
  have o := h.t.I.pe k p Rs[k] h1 (List.getElem?_eq_getElem hkr)
  have hn := o.num
  have htr := o.tr
  have hwt := C.wt
  have htm := C.tm
  have hun := C.un
  refine (ask_any c.B c.b c.xb c.pb c.RB S1 c.last c.ra c.rs c.rc c.ev c.wt c.mo ti ps' k p W h.t.ss.sk hk (List.getElem?_eq_some_iff.1 h1).2 ⟨by omega, by omega⟩ ⟨by omega, by omega⟩ ⟨by omega, by omega, by omega⟩ ⟨by omega, by omega⟩).mono ?_
  rintro e w' ⟨rfl, un, u1, u2, sk, f⟩
  refine ⟨rfl, ps'.set k (p.ask un), ⟨h.a.yes hp ((dueB_iff _ _ _).1 hd) un, ⟨h.t.ss.trans ⟨sk, f.mono (fun j hj => by simp at hj; simp [hj]), fun j hj => Or.inl hj⟩, ?_, h.t.vol⟩, own_fr h.o f (fun j hj hm => ?_), h.l⟩⟩
  · have := h.t.I.asked h1 un (by omega)
    rw [List.append_assoc] at this
    exact this
  · simp at hm
    obtain ⟨_, cur, h4⟩ := own_tag h.o hj
    rw [hm, h.t.ss.sk.pr] at h4
    simp at h4
theorem TkA.same {ps' : List Pe} {L : List (Nat × Lt)} {k : Nat} {v : Value} {p : Pe} (h : TkA c w W S S1 ti ps ps' n im Rs way L T q k v p) (hf : Fr [] W W') : TkA c w W' S S1 ti ps ps' n im Rs way L T q k v p := ⟨h.a, h.t.same hf, own_fr' h.o hf, h.l⟩
theorem TkA.push {ps' : List Pe} {L : List (Nat × Lt)} {k : Nat} {v v' : Value} {p : Pe} (h : TkA c w W S S1 ti ps ps' n im Rs way L T q k v p) (ho : W'.ownsRow w.heap.size 115 2 v' (L.length + 1) (ltC (lts n L) ++ [.int .i64 k, .string (Lt.txt k n (.ask (p.num + 1)))])) (hg : W.grownBy W' v.ownBlock) : TkL c w W' S S1 ti ps ps' n im Rs way (L ++ [(k, .ask (p.num + 1))]) T q (k + 1) v' := by
  have hb : ∀ j, v.ownBlock = some j → w.heap.size ≤ j ∧ ∃ cur, W.heap[j]? = some (.cells cur 115 (0, 0)) := fun j hj => own_tag h.o hj
  have hf : Fr v.ownBlock.toList W W' := (Fr.refl _ _).grown hg (fun k hk => Or.inl (by simp [hk]))
  have hkk := h.t.ss.sk
  refine ⟨h.a, ⟨⟨⟨?_, ?_, ?_, ?_⟩, h.t.ss.fr.grown hg (fun k hk => Or.inr (hb k hk).1), h.t.ss.ft⟩, h.t.I, h.t.vol⟩, ?_, by have := h.l; rw [List.length_append]; simp; omega⟩
  · refine hkk.rep.kept hf (fun k hk hm => ?_)
    simp at hm
    obtain ⟨_, cur, h4⟩ := hb k hm
    exact tag_foot hkk.rep h4 (by decide) hk
  · rw [hf.block c.xb (Array.getElem?_eq_some_iff.1 hkk.blk).1 (fun hm => by
      simp at hm
      obtain ⟨_, cur, h4⟩ := hb _ hm
      rw [hkk.blk] at h4
      simp at h4)]
    exact hkk.blk
  · rw [hf.block c.pb (Array.getElem?_eq_some_iff.1 hkk.pr).1 (fun hm => by
      simp at hm
      obtain ⟨_, cur, h4⟩ := hb _ hm
      rw [hkk.pr] at h4
      simp at h4)]
    exact hkk.pr
  · refine own_fr hkk.ru hf (fun k hk hm => ?_)
    simp at hm
    obtain ⟨_, cur, h4⟩ := hb k hm
    obtain ⟨_, cur', h5⟩ := own_tag hkk.ru hk
    rw [h4] at h5
    simp at h5
  · rw [List.length_append]
    have e1 : ltC (lts n (L ++ [(k, .ask (p.num + 1))])) = ltC (lts n L) ++ [.int .i64 k, .string (Lt.txt k n (.ask (p.num + 1)))] := by simp [ltC, lts]
    rw [e1]
    exact ho
end

/-- What Tick leaves. -/
def TiPost (c : SCfg) (w w' : World) (n : Nat) (S : Sto) (ps : List Pe) (im : List Img) (Rs : List Sto) (way : List (Nat × Lt)) (ti T : Int) (q : Nat) (v : Value) : Prop :=
  ∃ S' ps' im' L, w'.ownsRow w.heap.size 115 2 v L.length (ltC (lts n L)) ∧ TkS c w w' S S' (ti + 1) ps' n im' Rs (way ++ L) T (q + 5) ∧ Asked ps ps' L (ti + 1) (nwG im'.length) ps.length ∧ L.length ≤ 3 ∧ (((ti + 1) % c.ev = 0 ∧ im' = im ++ [⟨ti + 1, S.vol.map Ct.x⟩]) ∨ ((ti + 1) % c.ev ≠ 0 ∧ im' = im))
theorem info115 : (Tryz.prog.info? 115).map (fun i => (i.zero, i.size, i.bytes)) = some (some (.agg #[.int .i64 0, .string ⟨#[]⟩]), 2, 24) := by kernel_rfl

set_option maxRecDepth 100000 in
set_option maxHeartbeats 6400000 in
theorem tick_any (c : SCfg) (w : World) (n : Nat) (S : Sto) (ps : List Pe) (im : List Img) (Rs : List Sto) (way : List (Nat × Lt)) (ti T : Int) (q : Nat) (C : CfOk c (ti + 1) T) (hti : 0 ≤ ti) (I : NInv n S ps im Rs way T q) (h : SKc c w S ti ps) (hq : q ≤ 700000) :
    Calls Tryz.prog 23 #[.pointer (some ⟨c.xb, 0, none⟩)] w fun e w' => ∃ v, e = .returned v ∧ TiPost c w w' n S ps im Rs way ti T q v := by
  obtain ⟨i0, hi, hz0, hz1, hz2⟩ := info_parts info115
  have HC : Hid (CfOk c (ti + 1) T) := C
  have c6 := h.sc.c6
  have z6 : w.frozen? ⟨c.xb, 6, none⟩ = false := froz_of h.blk _
  obtain ⟨w1, hw1⟩ : ∃ w1, w.setCell ⟨c.xb, 6, none⟩ (.int .i64 (ti + 1)) = w1 := ⟨_, rfl⟩
  have k1 : SKc c w1 S (ti + 1) ps := by rw [← hw1]; exact SK.setT h (ti + 1)
  have f1 : Fr (c.xb :: c.pb :: foot c.b S) w w1 := by rw [← hw1]; exact (Fr.refl _ _).setCell _ (Or.inl (by simp))
  have H1 : Hid (TkS c w w1 S S (ti + 1) ps n im Rs way T q) := ⟨⟨k1, f1, fun _ hk => Or.inl hk⟩, I, rfl⟩
  have d6 : w1.cell? ⟨c.xb, 6, none⟩ = some (.int .i64 (ti + 1)) := k1.sc.c6
  have d3 : w1.cell? ⟨c.xb, 3, none⟩ = some (.int .i64 c.ev) := k1.sc.c3
  have hw1' := hw1
  have htm := C.tm
  have hev := C.ev
  have hlt : ti ≤ 1000000 := by omega
  have HPl : Hid (ps.length ≤ 3) := I.pl
  clear C I h k1 f1 hw1
  have hev0 : c.ev ≠ 0 := by omega
  obtain ⟨r, hr⟩ : ∃ r, (ti + 1) % c.ev = r := ⟨_, rfl⟩
  have hrem : Int.tmod (ti + 1) c.ev = r := by rw [← hr]; exact Int.tmod_eq_emod_of_nonneg (by omega)
  have HR : Hid ((ti + 1) % c.ev = r) := hr
  obtain ⟨ev, hev'⟩ : ∃ ev, c.ev = ev := ⟨_, rfl⟩
  rw [hev'] at hrem d3 hev0 hev
  clear hr hev'
  have H1d : Hid (∀ W, Fr [] w1 W → TkS c w W S S (ti + 1) ps n im Rs way T q) := fun W hW => H1.out.same hW
  have HQ : Hid (q ≤ 700000) := hq
  obtain ⟨m, hm⟩ : ∃ m, ps.length = m := ⟨_, rfl⟩
  have HM : Hid (ps.length = m) := hm
  have hm3 : m ≤ 3 := by have := HPl.out; omega
  clear hm
  by_cases hr0 : r = 0
  · subst hr0
    go_enter Tryz.func23, Tryz.ntmps23
    go_wp2
    go_quiet (fail)
    go_wp2
    go_region_held3 (fun w' => w'.cell? ⟨c.xb, 6, none⟩ = some (.int .i64 (ti + 1)))
      (first
        | exact e26
        | go_keep)
      (first
        | (go_at_call 40; refine (tk_thin HC.out (H1d.out _ (by first | exact Fr.refl _ _ | exact (Fr.refl _ _).drewN _ | exact ((Fr.refl _ _).drewN _).drew | exact (Fr.refl _ _).drew | exact ((Fr.refl _ _).drewN _).drewN _)) (by have := HQ.out; omega)).mono ?_; rintro e w2 ⟨rfl, S2, t2, l2⟩; have H2 : Hid (TkS c w w2 S S2 (ti + 1) ps n im Rs way T (q + 1) ∧ S2.ss.length < 12) := ⟨t2, l2⟩; have e26 : w2.cell? ⟨c.xb, 6, none⟩ = some (.int .i64 (ti + 1)) := t2.ss.sk.sc.c6; have e20 : w2.cell? ⟨c.xb, 0, none⟩ = some (.pointer (some ⟨c.b, 0, none⟩)) := t2.ss.sk.sc.c0; clear t2 l2))
    go_wp2
    go_region_held3 (fun w' => w'.cell? ⟨c.xb, 6, none⟩ = some (.int .i64 (ti + 1)) ∧ w'.cell? ⟨c.xb, 0, none⟩ = some (.pointer (some ⟨c.b, 0, none⟩)))
      (first
        | exact ⟨e36, e30⟩
        | go_keep)
      (first
        | (go_at_call 41; refine (tk_snap HC.out (H2.out.1.same (by first | exact Fr.refl _ _ | exact (Fr.refl _ _).drewN _ | exact ((Fr.refl _ _).drewN _).drew | exact (Fr.refl _ _).drew | exact ((Fr.refl _ _).drewN _).drewN _)) (by have := HQ.out; omega) H2.out.2).mono ?_; rintro e w3 ⟨gg, rfl, S3, t3⟩; have H3 : Hid (TkS c w w3 S S3 (ti + 1) ps n (im ++ [⟨ti + 1, S.vol.map Ct.x⟩]) Rs way T (q + 2)) := t3; have e36 : w3.cell? ⟨c.xb, 6, none⟩ = some (.int .i64 (ti + 1)) := t3.ss.sk.sc.c6; have e30 : w3.cell? ⟨c.xb, 0, none⟩ = some (.pointer (some ⟨c.b, 0, none⟩)) := t3.ss.sk.sc.c0; clear t3))
    obtain ⟨im3, him3⟩ : ∃ im3, im ++ [(⟨ti + 1, S.vol.map Ct.x⟩ : Img)] = im3 := ⟨_, rfl⟩
    have HIM : Hid (((ti + 1) % c.ev = 0 ∧ im3 = im ++ [⟨ti + 1, S.vol.map Ct.x⟩]) ∨ ((ti + 1) % c.ev ≠ 0 ∧ im3 = im)) := Or.inl ⟨HR.out, him3.symm⟩
    rw [him3] at H3
    clear him3
    have HB : Hid (∀ W, Fr [] w3 W → TkS c w W S S3 (ti + 1) ps n im3 Rs way T (q + 2)) := fun W hW => H3.out.same hW
    clear H3 H2 e26 e20 e36 e30
    go_wp2_with (first
      | (go_at_call 36; refine (tk_newest (HB.out _ (by first | exact Fr.refl _ _ | exact (Fr.refl _ _).drewN _ | exact ((Fr.refl _ _).drewN _).drew | exact (Fr.refl _ _).drew | exact ((Fr.refl _ _).drewN _).drewN _))).mono ?_; rintro e w4 ⟨rfl, t4⟩; have H4 : Hid (TkS c w w4 S S3 (ti + 1) ps n im3 Rs way T (q + 2)) := t4; have e47 : w4.cell? ⟨c.xb, 7, none⟩ = some (.slice (some ⟨c.pb, 0, none⟩) m m) := (by have h7 := t4.ss.sk.sc.c7; rw [HM.out] at h7; exact h7); clear t4))
    go_loopw [3, 55] (fun lv0 i wr => ∃ (lv : Value) (k : Nat) (ps' : List Pe) (L : List (Nat × Lt)), lv0 = lv ∧ k ≤ m ∧ i = .int .i64 k ∧ Hid (TkL c w wr S S3 (ti + 1) ps ps' n im3 Rs way L T (q + 2) k lv)) (fun _ i _ => m - (intOf i).toNat)
    case atStart => exact ⟨_, 0, ps, [], rfl, Nat.zero_le _, rfl, Asked.nil _ _ _, (by rw [List.append_nil]; exact H4.out), World.ownsRow_nil _ _ _ _, Nat.le_refl _⟩
    case round =>
      obtain ⟨lv, k, ps', L, hlv0, hk, rfl, HL⟩ := hrel
      have hlv1 := hlv0.symm
      clear hlv0
      subst hlv1
      obtain ⟨W3, hW3⟩ : ∃ W3, W3 = wr := ⟨_, rfl⟩
      subst hW3
      clear H4 e47
      by_cases hlt2 : k < m
      · have hltz : (k : Int) < (m : Int) := by omega
        have k0 : (0 : Int) ≤ (k : Int) := by omega
        have hkp : k < ps.length := by rw [HM.out]; exact hlt2
        obtain ⟨p, hp⟩ : ∃ p, ps[k]? = some p := ⟨_, List.getElem?_eq_getElem hkp⟩
        have HP : Hid (ps[k]? = some p) := hp
        clear hp hkp
        have hq2 : q + 2 + k ≤ 800000 := by have := HQ.out; omega
        have c37 : W3.cell? ⟨c.xb, 7, none⟩ = some (.slice (some ⟨c.pb, 0, none⟩) m m) := by
          have h7 := HL.out.t.ss.sk.sc.c7
          rw [HL.out.a.1, HM.out] at h7
          exact h7
        have c36 : W3.cell? ⟨c.xb, 6, none⟩ = some (.int .i64 (ti + 1)) := HL.out.t.ss.sk.sc.c6
        have HD : Hid (∀ W, Fr [] W3 W → Calls Tryz.prog 42 #[.pointer (some ⟨c.pb, k * 7, none⟩), .int .i64 (ti + 1), .int .i64 (nwG im3.length)] W fun e w' => e = .returned (.bool (dueB p (ti + 1) (nwG im3.length))) ∧ Fr [] W w') := fun W hW => tl_due (HL.out.same hW) HP.out
        obtain ⟨nw, hnw⟩ : ∃ nw, nwG im3.length = nw := ⟨_, rfl⟩
        have HNW : Hid (nwG im3.length = nw) := hnw
        rw [hnw] at HD ⊢
        clear hnw
        obtain ⟨d, hd⟩ : ∃ d, dueB p (ti + 1) nw = d := ⟨_, rfl⟩
        rw [hd] at HD
        have HDD : Hid (dueB p (ti + 1) (nwG im3.length) = d) := by rw [HNW.out]; exact hd
        clear hd
        cases d
        · go_wp2
          go_region_held3 (fun w' => w'.cell? ⟨c.xb, 6, none⟩ = some (.int .i64 (ti + 1)) ∧ w'.cell? ⟨c.xb, 7, none⟩ = some (.slice (some ⟨c.pb, 0, none⟩) m m))
            (first
              | exact ⟨c56, c57⟩
              | go_keep)
            (first
              | (go_at_call 42; refine (HD.out _ (by first | exact Fr.refl _ _ | exact (Fr.refl _ _).drew)).mono ?_; rintro e w5 ⟨rfl, f5⟩; have H5 : Hid (TkL c w w5 S S3 (ti + 1) ps ps' n im3 Rs way L T (q + 2) k lv) := (by first | exact HL.out.same f5 | exact (HL.out.same (Fr.refl _ _).drew).same f5); have c57 : w5.cell? ⟨c.xb, 7, none⟩ = some (.slice (some ⟨c.pb, 0, none⟩) m m) := f5.gb.cell c37 (by simp); have c56 : w5.cell? ⟨c.xb, 6, none⟩ = some (.int .i64 (ti + 1)) := f5.gb.cell c36 (by simp); clear f5))
          all_goals
            go_wp2
            go_roundw
            case rel => exact ⟨_, k + 1, ps', L, rfl, by omega, by go_num, H5.out.no HP.out HDD.out⟩
            case measure => simp [intOf]; omega
        · go_wp2
          go_region_held3 (fun w' => w'.cell? ⟨c.xb, 6, none⟩ = some (.int .i64 (ti + 1)) ∧ w'.cell? ⟨c.xb, 7, none⟩ = some (.slice (some ⟨c.pb, 0, none⟩) m m))
            (first
              | exact ⟨c56, c57⟩
              | go_keep)
            (first
              | (go_at_call 42; refine (HD.out _ (by first | exact Fr.refl _ _ | exact (Fr.refl _ _).drew)).mono ?_; rintro e w5 ⟨rfl, f5⟩; have H5 : Hid (TkL c w w5 S S3 (ti + 1) ps ps' n im3 Rs way L T (q + 2) k lv) := (by first | exact HL.out.same f5 | exact (HL.out.same (Fr.refl _ _).drew).same f5); have c57 : w5.cell? ⟨c.xb, 7, none⟩ = some (.slice (some ⟨c.pb, 0, none⟩) m m) := f5.gb.cell c37 (by simp); have c56 : w5.cell? ⟨c.xb, 6, none⟩ = some (.int .i64 (ti + 1)) := f5.gb.cell c36 (by simp); clear f5))
          all_goals
            clear HL
            obtain ⟨la, lc, hlv⟩ := own_shape H5.out.o
            have HA : Hid (Calls Tryz.prog 43 #[.pointer (some ⟨c.xb, 0, none⟩), .int .i64 k] w5 fun e w' => e = .returned (.agg #[.int .i64 k, .string (Lt.txt k n (.ask (p.num + 1)))]) ∧ ∃ ps'', TkA c w w' S S3 (ti + 1) ps ps'' n im3 Rs way L T (q + 2) k lv p) := tl_ask HC.out H5.out HP.out HDD.out hq2
            subst hlv
            obtain ⟨ln, hln⟩ : ∃ ln, L.length = ln := ⟨_, rfl⟩
            have HLN : Hid (L.length = ln ∧ ln ≤ k) := ⟨hln, by have := H5.out.l; omega⟩
            obtain ⟨Tx, hTx⟩ : ∃ Tx, Lt.txt k n (.ask (p.num + 1)) = Tx := ⟨_, rfl⟩
            have HTx : Hid (Lt.txt k n (.ask (p.num + 1)) = Tx) := hTx
            rw [hln] at HA
            rw [hTx] at HA
            rw [hln]
            clear hln hTx
            have hlk : ln ≤ 3 := by have := HLN.out; omega
            go_wp2_with (first
              | (go_at_call 43; refine HA.out.mono ?_; rintro e w6 ⟨rfl, ps6, t6⟩; have H6 : Hid (TkA c w w6 S S3 (ti + 1) ps ps6 n im3 Rs way L T (q + 2) k (.slice la ln lc) p) := t6; have HO6 : Hid (w6.ownsRow w.heap.size 115 2 (.slice la ln lc) ln (ltC (lts n L))) := (by have h8 := t6.o; rw [HLN.out.1] at h8; exact h8); have hsz6 : w.heap.size ≤ w6.heap.size := t6.t.ss.fr.size; clear t6)
              | (at_builtin; refine wpList_append_own _ rfl _ _ 52 rfl w.heap.size 115 i0 _ 2 24 Tryz.underlying52 hi hz0 hz1 hz2 rfl (by omega) (.slice la ln lc) ln (ltC (lts n L)) rfl (HO6.out.alloc _) ⟨w6.heap.size, 0, none⟩ 1 1 [.int .i64 (k : Int), .string Tx] rfl (by simp) (World.news_of_block (cs := #[.int .i64 (k : Int), .string Tx]) (t := 115) (fr := (0, 0)) (heap_alloc_new w6 _)) (by simp [Value.oneCell']) (by unfold maxLen; omega) (by omega) (by simp; omega) ?_; intro v9 w9 hown9 hgrow9 hne9; have H9 : Hid (TkL c w w9 S S3 (ti + 1) ps ps6 n im3 Rs way (L ++ [(k, .ask (p.num + 1))]) T (q + 2) (k + 1) v9) := TkA.push (H6.out.same ((Fr.refl _ _).alloc _)) (by rw [HLN.out.1, HTx.out]; exact hown9) hgrow9; clear hown9 hgrow9 hne9))
            go_roundw
            case rel => exact ⟨_, k + 1, ps6, L ++ [(k, Lt.ask (p.num + 1))], rfl, by omega, by go_num, H9⟩
            case measure => simp [intOf]; omega
      · have hltz : ¬ (k : Int) < (m : Int) := by omega
        have hkm : k = m := by omega
        subst hkm
        go_wp2
        go_ret
        refine ⟨_, rfl, S3, ps', im3, L, HL.out.o, ?_, ?_, by have := HL.out.l; omega, HIM.out⟩
        · exact ⟨HL.out.t.ss, HL.out.t.I.le (by omega) (Int.le_refl T), HL.out.t.vol⟩
        · rw [HM.out]
          exact HL.out.a
  · obtain ⟨im3, him3⟩ : ∃ im3, im = im3 := ⟨_, rfl⟩
    have HIM : Hid (((ti + 1) % c.ev = 0 ∧ im3 = im ++ [⟨ti + 1, S.vol.map Ct.x⟩]) ∨ ((ti + 1) % c.ev ≠ 0 ∧ im3 = im)) := Or.inr ⟨by rw [HR.out]; exact hr0, him3.symm⟩
    obtain ⟨S3, hS3⟩ : ∃ S3, S = S3 := ⟨_, rfl⟩
    have HB : Hid (∀ W, Fr [] w1 W → TkS c w W S S3 (ti + 1) ps n im3 Rs way T (q + 2)) := fun W hW => by
      have := H1.out.same hW
      rw [← hS3, ← him3]
      exact ⟨this.ss, this.I.le (by omega) (Int.le_refl T), this.vol⟩
    clear hS3 him3
    have hre : (r == 0) = false := by simpa using hr0
    go_enter Tryz.func23, Tryz.ntmps23
    go_wp2
    go_quiet (fail)
    go_wp2_with (first
      | (go_at_call 36; refine (tk_newest (HB.out _ (by first | exact Fr.refl _ _ | exact (Fr.refl _ _).drewN _ | exact ((Fr.refl _ _).drewN _).drew | exact (Fr.refl _ _).drew | exact ((Fr.refl _ _).drewN _).drewN _))).mono ?_; rintro e w4 ⟨rfl, t4⟩; have H4 : Hid (TkS c w w4 S S3 (ti + 1) ps n im3 Rs way T (q + 2)) := t4; have e47 : w4.cell? ⟨c.xb, 7, none⟩ = some (.slice (some ⟨c.pb, 0, none⟩) m m) := (by have h7 := t4.ss.sk.sc.c7; rw [HM.out] at h7; exact h7); clear t4))
    go_loopw [3, 55] (fun lv0 i wr => ∃ (lv : Value) (k : Nat) (ps' : List Pe) (L : List (Nat × Lt)), lv0 = lv ∧ k ≤ m ∧ i = .int .i64 k ∧ Hid (TkL c w wr S S3 (ti + 1) ps ps' n im3 Rs way L T (q + 2) k lv)) (fun _ i _ => m - (intOf i).toNat)
    case atStart => exact ⟨_, 0, ps, [], rfl, Nat.zero_le _, rfl, Asked.nil _ _ _, (by rw [List.append_nil]; exact H4.out), World.ownsRow_nil _ _ _ _, Nat.le_refl _⟩
    case round =>
      obtain ⟨lv, k, ps', L, hlv0, hk, rfl, HL⟩ := hrel
      have hlv1 := hlv0.symm
      clear hlv0
      subst hlv1
      obtain ⟨W3, hW3⟩ : ∃ W3, W3 = wr := ⟨_, rfl⟩
      subst hW3
      clear H4 e47
      by_cases hlt2 : k < m
      · have hltz : (k : Int) < (m : Int) := by omega
        have k0 : (0 : Int) ≤ (k : Int) := by omega
        have hkp : k < ps.length := by rw [HM.out]; exact hlt2
        obtain ⟨p, hp⟩ : ∃ p, ps[k]? = some p := ⟨_, List.getElem?_eq_getElem hkp⟩
        have HP : Hid (ps[k]? = some p) := hp
        clear hp hkp
        have hq2 : q + 2 + k ≤ 800000 := by have := HQ.out; omega
        have c37 : W3.cell? ⟨c.xb, 7, none⟩ = some (.slice (some ⟨c.pb, 0, none⟩) m m) := by
          have h7 := HL.out.t.ss.sk.sc.c7
          rw [HL.out.a.1, HM.out] at h7
          exact h7
        have c36 : W3.cell? ⟨c.xb, 6, none⟩ = some (.int .i64 (ti + 1)) := HL.out.t.ss.sk.sc.c6
        have HD : Hid (∀ W, Fr [] W3 W → Calls Tryz.prog 42 #[.pointer (some ⟨c.pb, k * 7, none⟩), .int .i64 (ti + 1), .int .i64 (nwG im3.length)] W fun e w' => e = .returned (.bool (dueB p (ti + 1) (nwG im3.length))) ∧ Fr [] W w') := fun W hW => tl_due (HL.out.same hW) HP.out
        obtain ⟨nw, hnw⟩ : ∃ nw, nwG im3.length = nw := ⟨_, rfl⟩
        have HNW : Hid (nwG im3.length = nw) := hnw
        rw [hnw] at HD ⊢
        clear hnw
        obtain ⟨d, hd⟩ : ∃ d, dueB p (ti + 1) nw = d := ⟨_, rfl⟩
        rw [hd] at HD
        have HDD : Hid (dueB p (ti + 1) (nwG im3.length) = d) := by rw [HNW.out]; exact hd
        clear hd
        cases d
        · go_wp2
          go_region_held3 (fun w' => w'.cell? ⟨c.xb, 6, none⟩ = some (.int .i64 (ti + 1)) ∧ w'.cell? ⟨c.xb, 7, none⟩ = some (.slice (some ⟨c.pb, 0, none⟩) m m))
            (first
              | exact ⟨c56, c57⟩
              | go_keep)
            (first
              | (go_at_call 42; refine (HD.out _ (by first | exact Fr.refl _ _ | exact (Fr.refl _ _).drew)).mono ?_; rintro e w5 ⟨rfl, f5⟩; have H5 : Hid (TkL c w w5 S S3 (ti + 1) ps ps' n im3 Rs way L T (q + 2) k lv) := (by first | exact HL.out.same f5 | exact (HL.out.same (Fr.refl _ _).drew).same f5); have c57 : w5.cell? ⟨c.xb, 7, none⟩ = some (.slice (some ⟨c.pb, 0, none⟩) m m) := f5.gb.cell c37 (by simp); have c56 : w5.cell? ⟨c.xb, 6, none⟩ = some (.int .i64 (ti + 1)) := f5.gb.cell c36 (by simp); clear f5))
          all_goals
            go_wp2
            go_roundw
            case rel => exact ⟨_, k + 1, ps', L, rfl, by omega, by go_num, H5.out.no HP.out HDD.out⟩
            case measure => simp [intOf]; omega
        · go_wp2
          go_region_held3 (fun w' => w'.cell? ⟨c.xb, 6, none⟩ = some (.int .i64 (ti + 1)) ∧ w'.cell? ⟨c.xb, 7, none⟩ = some (.slice (some ⟨c.pb, 0, none⟩) m m))
            (first
              | exact ⟨c56, c57⟩
              | go_keep)
            (first
              | (go_at_call 42; refine (HD.out _ (by first | exact Fr.refl _ _ | exact (Fr.refl _ _).drew)).mono ?_; rintro e w5 ⟨rfl, f5⟩; have H5 : Hid (TkL c w w5 S S3 (ti + 1) ps ps' n im3 Rs way L T (q + 2) k lv) := (by first | exact HL.out.same f5 | exact (HL.out.same (Fr.refl _ _).drew).same f5); have c57 : w5.cell? ⟨c.xb, 7, none⟩ = some (.slice (some ⟨c.pb, 0, none⟩) m m) := f5.gb.cell c37 (by simp); have c56 : w5.cell? ⟨c.xb, 6, none⟩ = some (.int .i64 (ti + 1)) := f5.gb.cell c36 (by simp); clear f5))
          all_goals
            clear HL
            obtain ⟨la, lc, hlv⟩ := own_shape H5.out.o
            have HA : Hid (Calls Tryz.prog 43 #[.pointer (some ⟨c.xb, 0, none⟩), .int .i64 k] w5 fun e w' => e = .returned (.agg #[.int .i64 k, .string (Lt.txt k n (.ask (p.num + 1)))]) ∧ ∃ ps'', TkA c w w' S S3 (ti + 1) ps ps'' n im3 Rs way L T (q + 2) k lv p) := tl_ask HC.out H5.out HP.out HDD.out hq2
            subst hlv
            obtain ⟨ln, hln⟩ : ∃ ln, L.length = ln := ⟨_, rfl⟩
            have HLN : Hid (L.length = ln ∧ ln ≤ k) := ⟨hln, by have := H5.out.l; omega⟩
            obtain ⟨Tx, hTx⟩ : ∃ Tx, Lt.txt k n (.ask (p.num + 1)) = Tx := ⟨_, rfl⟩
            have HTx : Hid (Lt.txt k n (.ask (p.num + 1)) = Tx) := hTx
            rw [hln] at HA
            rw [hTx] at HA
            rw [hln]
            clear hln hTx
            have hlk : ln ≤ 3 := by have := HLN.out; omega
            go_wp2_with (first
              | (go_at_call 43; refine HA.out.mono ?_; rintro e w6 ⟨rfl, ps6, t6⟩; have H6 : Hid (TkA c w w6 S S3 (ti + 1) ps ps6 n im3 Rs way L T (q + 2) k (.slice la ln lc) p) := t6; have HO6 : Hid (w6.ownsRow w.heap.size 115 2 (.slice la ln lc) ln (ltC (lts n L))) := (by have h8 := t6.o; rw [HLN.out.1] at h8; exact h8); have hsz6 : w.heap.size ≤ w6.heap.size := t6.t.ss.fr.size; clear t6)
              | (at_builtin; refine wpList_append_own _ rfl _ _ 52 rfl w.heap.size 115 i0 _ 2 24 Tryz.underlying52 hi hz0 hz1 hz2 rfl (by omega) (.slice la ln lc) ln (ltC (lts n L)) rfl (HO6.out.alloc _) ⟨w6.heap.size, 0, none⟩ 1 1 [.int .i64 (k : Int), .string Tx] rfl (by simp) (World.news_of_block (cs := #[.int .i64 (k : Int), .string Tx]) (t := 115) (fr := (0, 0)) (heap_alloc_new w6 _)) (by simp [Value.oneCell']) (by unfold maxLen; omega) (by omega) (by simp; omega) ?_; intro v9 w9 hown9 hgrow9 hne9; have H9 : Hid (TkL c w w9 S S3 (ti + 1) ps ps6 n im3 Rs way (L ++ [(k, .ask (p.num + 1))]) T (q + 2) (k + 1) v9) := TkA.push (H6.out.same ((Fr.refl _ _).alloc _)) (by rw [HLN.out.1, HTx.out]; exact hown9) hgrow9; clear hown9 hgrow9 hne9))
            go_roundw
            case rel => exact ⟨_, k + 1, ps6, L ++ [(k, Lt.ask (p.num + 1))], rfl, by omega, by go_num, H9⟩
            case measure => simp [intOf]; omega
      · have hltz : ¬ (k : Int) < (m : Int) := by omega
        have hkm : k = m := by omega
        subst hkm
        go_wp2
        go_ret
        refine ⟨_, rfl, S3, ps', im3, L, HL.out.o, ?_, ?_, by have := HL.out.l; omega, HIM.out⟩
        · exact ⟨HL.out.t.ss, HL.out.t.I.le (by omega) (Int.le_refl T), HL.out.t.vol⟩
        · rw [HM.out]
          exact HL.out.a
end Go.Proofs.YthdhegmlknpllabGreatDoor

/-
  The walks of node's NewSource (18), and of NewReplica (19) once more: where the replica lies.
-/
namespace Go.Proofs.YthdhegmlknpllabGreatDoor
open Go.RowKit Go.Maps Go.MuLone

set_option maxRecDepth 100000 in
set_option maxHeartbeats 3200000 in
theorem newReplica_at (id : Int) (n : Nat) (t : ByteArray) (rs : List (Int × Int)) (last : Int) (w : World) (h1 : 1 ≤ id ∧ id ≤ 999) (h2 : 1 ≤ n ∧ n ≤ 16) (hla : 1 ≤ last ∧ last ≤ 12) (hp : ParsesTo t rs) :
    Calls Tryz.prog 19 #[.int .i64 id, .int .i64 n, .string t, .int .i64 last] w fun e w' => ∃ b kb vb mb lv ra rc, e = .returned (.tuple #[.pointer (some ⟨kb, 0, none⟩), .int .i64 0]) ∧ RK w.heap.size b kb w.heap.size w' (newS id n vb mb lv) last ra rs rc ∧ w'.heap[kb]? = some (.cells #[.pointer (some ⟨b, 0, none⟩), .int .i64 last, .slice ra rs.length rc] 98 (0, 0)) ∧ w.heap.size ≤ kb ∧ Fr [] w w' := by
  have HK : Hid (Calls Tryz.prog 34 #[.int .i64 id, .int .i64 n, .string t, .int .i64 last] w fun e w' => ∃ b vb mb lv ra rc, e = .returned (.tuple #[.agg #[.pointer (some ⟨b, 0, none⟩), .int .i64 last, .slice ra rs.length rc], .int .i64 0]) ∧ Rep w.heap.size w' b 0 ((Sto.fresh id n vb mb).noted 78 (ntext id n) lv) ∧ w'.ownsRow w.heap.size 158 2 (.slice ra rs.length rc) rs.length (rlC rs) ∧ Fr [] w w') := newKeeper_ok id n t rs last w h1 h2 hla hp
  clear h1 h2 hla hp
  go_enter Tryz.func19, Tryz.ntmps19
  go_wp2_with (first
    | (go_at_call 34; refine HK.out.mono ?_; rintro e w1 ⟨b, vb, mb, lv, ra, rc, rfl, r1, o1, f1⟩
       have H1 : Hid (Rep w.heap.size w1 b 0 (newS id n vb mb lv) ∧ w1.ownsRow w.heap.size 158 2 (.slice ra rs.length rc) rs.length (rlC rs) ∧ Fr [] w w1) := ⟨r1, o1, f1⟩
       clear r1 o1 f1))
  have f2 : Fr [] w1 ((w1.alloc (.cells #[.pointer (some ⟨b, 0, none⟩), .int .i64 last, .slice ra rs.length rc] 70)).alloc (.cells #[.pointer (some ⟨b, 0, none⟩), .int .i64 last, .slice ra rs.length rc] 98)) := ((Fr.refl _ _).alloc _).alloc _
  have n2 := heap_alloc_new (w1.alloc (.cells #[.pointer (some ⟨b, 0, none⟩), .int .i64 last, .slice ra rs.length rc] 70)) (.cells #[.pointer (some ⟨b, 0, none⟩), .int .i64 last, .slice ra rs.length rc] 98)
  have hsz : (w1.alloc (.cells #[.pointer (some ⟨b, 0, none⟩), .int .i64 last, .slice ra rs.length rc] 70)).heap.size = w1.heap.size + 1 := by simp
  rw [hsz] at n2
  have hw := H1.out.2.2.size
  refine bodyPost_ret (results_tmp2 rfl _ _ _) rfl ⟨b, w1.heap.size + 1, vb, mb, lv, ra, rc, rfl, ⟨H1.out.1.kept0 f2, ⟨?_, ?_, ?_⟩, fun hm => ?_, own_fr' H1.out.2.1 f2⟩, n2, by omega, H1.out.2.2.trans f2 (by simp)⟩
  · rw [cell_of n2]; rfl
  · rw [cell_of n2]; rfl
  · rw [cell_of n2]; rfl
  · have := (H1.out.1.lt _ hm).2
    omega

theorem info112 : (Tryz.prog.info? 112).map (fun i => (i.zero, i.size, i.bytes)) = some (some (.agg #[.int .i64 0, .int .i64 0, .int .i64 0, .int .i64 0, .int .u8 0, .int .i64 0, .int .i64 0]), 7, 56) := by kernel_rfl
/-- A peer of which nothing is known. -/
def Pe.zero : Pe := ⟨0, 0, 0, 0, 0, 0, 0⟩

theorem made_peers (m : Nat) (hm : m ≤ 3) : madeCells (Value.agg #[.int .i64 0, .int .i64 0, .int .i64 0, .int .i64 0, .int .u8 0, .int .i64 0, .int .i64 0]).cells (m * 7) = (psC (List.replicate m Pe.zero)).toArray := by
  rcases (by omega : m = 0 ∨ m = 1 ∨ m = 2 ∨ m = 3) with h | h | h | h <;> subst h <;> kernel_rfl
theorem run_peers (m : Nat) (hm : m ≤ 3) (W : World) : (Instr.makeSlice 71 (.int .i64 (m : Int)) (.int .i64 (m : Int))).run Tryz.prog W = .ok (.slice (some ⟨W.heap.size, 0, none⟩) m m) (W.alloc (.cells (psC (List.replicate m Pe.zero)).toArray 112)) := by
  obtain ⟨i0, hi, hz0, hz1, hz2⟩ := info_parts info112
  have hr := run_make (P := Tryz.prog) W 71 112 i0 _ Tryz.underlying71 hi hz0 .i64 .i64 m m (by omega) (Int.le_refl _) (by rw [hz2]; omega) (by omega)
  simp only [Int.toNat_natCast, hz1] at hr
  rw [made_peers m hm] at hr
  exact hr

set_option maxRecDepth 100000 in
set_option maxHeartbeats 3200000 in
theorem newSource_ok (n m : Nat) (ev wt mo last : Int) (t : ByteArray) (rs : List (Int × Int)) (w : World) (h2 : 1 ≤ n ∧ n ≤ 16) (hm : 1 ≤ m ∧ m ≤ 3) (hev : 1 ≤ ev ∧ ev ≤ 1000) (hwt : 1 ≤ wt ∧ wt ≤ mo ∧ mo ≤ 1000) (hla : 1 ≤ last ∧ last ≤ 12) (hp : ParsesTo t rs) :
    Calls Tryz.prog 18 #[.agg #[.int .i64 1, .int .i64 n, .int .i64 m, .int .i64 ev, .int .i64 wt, .int .i64 mo, .string t, .int .i64 last]] w fun e w' => ∃ (c : SCfg) (vb mb : Nat) (lv : Value), e = .returned (.tuple #[.pointer (some ⟨c.xb, 0, none⟩), .int .i64 0]) ∧ SKc c w' (newS 1 n vb mb lv) 0 (List.replicate m Pe.zero) ∧ c.last = last ∧ c.rs = rs ∧ c.ev = ev ∧ c.wt = wt ∧ c.mo = mo ∧ w.heap.size ≤ c.xb ∧ w.heap.size ≤ c.pb ∧ w.heap.size ≤ c.B ∧ w.heap.size ≤ c.RB ∧ Fr [] w w' := by
  obtain ⟨i0, hi, hz0, hz1, hz2⟩ := info_parts info112
  have HK : Hid (∀ W, Calls Tryz.prog 34 #[.int .i64 1, .int .i64 n, .string t, .int .i64 last] W fun e w' => ∃ b vb mb lv ra rc, e = .returned (.tuple #[.agg #[.pointer (some ⟨b, 0, none⟩), .int .i64 last, .slice ra rs.length rc], .int .i64 0]) ∧ Rep W.heap.size w' b 0 ((Sto.fresh 1 n vb mb).noted 78 (ntext 1 n) lv) ∧ w'.ownsRow W.heap.size 158 2 (.slice ra rs.length rc) rs.length (rlC rs) ∧ Fr [] W w') := fun W => newKeeper_ok 1 n t rs last W (by omega) h2 hla hp
  obtain ⟨w0, hw0⟩ : ∃ w0, w.alloc (.cells #[.int .i64 1, .int .i64 n, .int .i64 m, .int .i64 ev, .int .i64 wt, .int .i64 mo, .string t, .int .i64 last] 43) = w0 := ⟨_, rfl⟩
  obtain ⟨cb, hcb⟩ : ∃ cb, w.heap.size = cb := ⟨_, rfl⟩
  have n0 : w0.heap[cb]? = some (.cells #[.int .i64 1, .int .i64 n, .int .i64 m, .int .i64 ev, .int .i64 wt, .int .i64 mo, .string t, .int .i64 last] 43 (0, 0)) := by rw [← hw0, ← hcb]; exact heap_alloc_new w _
  have q0 : w0.cell? ⟨cb, 0, none⟩ = some (.int .i64 1) := by rw [cell_of n0]; rfl
  have q1 : w0.cell? ⟨cb, 1, none⟩ = some (.int .i64 n) := by rw [cell_of n0]; rfl
  have q2 : w0.cell? ⟨cb, 2, none⟩ = some (.int .i64 m) := by rw [cell_of n0]; rfl
  have q3 : w0.cell? ⟨cb, 3, none⟩ = some (.int .i64 ev) := by rw [cell_of n0]; rfl
  have q4 : w0.cell? ⟨cb, 4, none⟩ = some (.int .i64 wt) := by rw [cell_of n0]; rfl
  have q5 : w0.cell? ⟨cb, 5, none⟩ = some (.int .i64 mo) := by rw [cell_of n0]; rfl
  have q6 : w0.cell? ⟨cb, 6, none⟩ = some (.string t) := by rw [cell_of n0]; rfl
  have q7 : w0.cell? ⟨cb, 7, none⟩ = some (.int .i64 last) := by rw [cell_of n0]; rfl
  have H0 : Hid (Fr [] w w0 ∧ w0.heap[cb]? = some (.cells #[.int .i64 1, .int .i64 n, .int .i64 m, .int .i64 ev, .int .i64 wt, .int .i64 mo, .string t, .int .i64 last] 43 (0, 0))) := ⟨by rw [← hw0]; exact (Fr.refl _ _).alloc _, n0⟩
  have g1 : (1 : Int) ≤ (m : Int) := by omega
  have g2 : (m : Int) ≤ 3 := by omega
  have hm1 := hm.1
  have hm2 := hm.2
  have e1 := hev.1
  have e2 := hev.2
  have t1 := hwt.1
  have t2 := hwt.2.1
  have t3 := hwt.2.2
  have hw0' := hw0
  clear hp h2 hla hev hwt n0 hw0
  go_enter Tryz.func18, Tryz.ntmps18
  go_wp2_with (first
    | (go_at_call 34; refine (HK.out _).mono ?_; rintro e w1 ⟨b, vb, mb, lv, ra, rc, rfl, r1, o1, f1⟩; have H1 : Hid (Rep w0.heap.size w1 b 0 (newS 1 n vb mb lv) ∧ w1.ownsRow w0.heap.size 158 2 (.slice ra rs.length rc) rs.length (rlC rs) ∧ Fr [] w0 w1) := ⟨r1, o1, f1⟩; have p2 : w1.cell? ⟨cb, 2, none⟩ = some (.int .i64 m) := f1.gb.cell q2 (by simp); have p3 : w1.cell? ⟨cb, 3, none⟩ = some (.int .i64 ev) := f1.gb.cell q3 (by simp); have p4 : w1.cell? ⟨cb, 4, none⟩ = some (.int .i64 wt) := f1.gb.cell q4 (by simp); have p5 : w1.cell? ⟨cb, 5, none⟩ = some (.int .i64 mo) := f1.gb.cell q5 (by simp); clear r1 o1 f1))
  obtain ⟨w2, hw2⟩ : ∃ w2, w1.alloc (.cells #[.pointer (some ⟨b, 0, none⟩), .int .i64 last, .slice ra rs.length rc] 70) = w2 := ⟨_, rfl⟩
  obtain ⟨kb, hkb⟩ : ∃ kb, w1.heap.size = kb := ⟨_, rfl⟩
  have n2 : w2.heap[kb]? = some (.cells #[.pointer (some ⟨b, 0, none⟩), .int .i64 last, .slice ra rs.length rc] 70 (0, 0)) := by rw [← hw2, ← hkb]; exact heap_alloc_new w1 _
  have f2 : Fr [] w1 w2 := by rw [← hw2]; exact (Fr.refl _ _).alloc _
  have k0 : w2.cell? ⟨kb, 0, none⟩ = some (.pointer (some ⟨b, 0, none⟩)) := by rw [cell_of n2]; rfl
  have k1 : w2.cell? ⟨kb, 1, none⟩ = some (.int .i64 last) := by rw [cell_of n2]; rfl
  have k2 : w2.cell? ⟨kb, 2, none⟩ = some (.slice ra rs.length rc) := by rw [cell_of n2]; rfl
  have s2 : w2.cell? ⟨cb, 2, none⟩ = some (.int .i64 m) := f2.gb.cell p2 (by simp)
  have s3 : w2.cell? ⟨cb, 3, none⟩ = some (.int .i64 ev) := f2.gb.cell p3 (by simp)
  have s4 : w2.cell? ⟨cb, 4, none⟩ = some (.int .i64 wt) := f2.gb.cell p4 (by simp)
  have s5 : w2.cell? ⟨cb, 5, none⟩ = some (.int .i64 mo) := f2.gb.cell p5 (by simp)
  have H2 : Hid (Rep w0.heap.size w2 b 0 (newS 1 n vb mb lv) ∧ w2.ownsRow w0.heap.size 158 2 (.slice ra rs.length rc) rs.length (rlC rs) ∧ Fr [] w w2) := ⟨H1.out.1.kept0 f2, own_fr' H1.out.2.1 f2, (H0.out.1.trans H1.out.2.2 (by simp)).trans f2 (by simp)⟩
  have hmk := fun W => run_peers m (by omega) W
  obtain ⟨pc, hpc⟩ : ∃ pc, (psC (List.replicate m Pe.zero)).toArray = pc := ⟨_, rfl⟩
  have HPC : Hid ((psC (List.replicate m Pe.zero)).toArray = pc) := hpc
  rw [hpc] at hmk
  rw [hw2, hkb]
  clear hpc n2 f2 hw2 p2 p3 p4 p5 q0 q1 q2 q3 q4 q5 q6 q7
  go_region_held3 (fun w' => w'.cell? ⟨cb, 2, none⟩ = some (.int .i64 m) ∧ w'.cell? ⟨cb, 3, none⟩ = some (.int .i64 ev) ∧ w'.cell? ⟨cb, 4, none⟩ = some (.int .i64 wt) ∧ w'.cell? ⟨cb, 5, none⟩ = some (.int .i64 mo) ∧ w'.cell? ⟨kb, 0, none⟩ = some (.pointer (some ⟨b, 0, none⟩)) ∧ w'.cell? ⟨kb, 1, none⟩ = some (.int .i64 last) ∧ w'.cell? ⟨kb, 2, none⟩ = some (.slice ra rs.length rc))
    (go_keep)
    (fail)
  all_goals
    go_wp2
    have f3 : Fr [] w2 ((w2.alloc (.cells pc 112)).alloc (.cells #[.pointer (some ⟨b, 0, none⟩), .int .i64 last, .slice ra rs.length rc, .int .i64 ev, .int .i64 wt, .int .i64 mo, .int .i64 0, .slice (some ⟨w2.heap.size, 0, none⟩) m m] 73)).drew := (((Fr.refl _ _).alloc _).alloc _).drew
    have n4 := heap_alloc_new (w2.alloc (.cells pc 112)) (.cells #[.pointer (some ⟨b, 0, none⟩), .int .i64 last, .slice ra rs.length rc, .int .i64 ev, .int .i64 wt, .int .i64 mo, .int .i64 0, .slice (some ⟨w2.heap.size, 0, none⟩) m m] 73)
    have hs1 : (w2.alloc (.cells pc 112)).heap.size = w2.heap.size + 1 := by simp
    rw [hs1] at n4
    have n5 := heap_alloc_new w2 (.cells pc 112)
    have hww := H2.out.2.2.size
    have hw0s := H0.out.1.size
    refine bodyPost_ret (results_tmp2 rfl _ _ _) rfl ⟨⟨w0.heap.size, b, w2.heap.size + 1, w2.heap.size, w0.heap.size, last, ra, rs, rc, ev, wt, mo⟩, vb, mb, lv, rfl, ⟨H2.out.1.kept0 f3, ?_, ?_, own_fr' H2.out.2.1 f3⟩, rfl, rfl, rfl, rfl, rfl, by show _ ≤ _ + 1; omega, hww, hw0s, hw0s, H2.out.2.2.trans f3 (by simp)⟩
    · rw [List.length_replicate]
      exact n4
    · rw [HPC.out]
      exact (Below.heap_alloc _ _ _ (by rw [hs1]; exact Nat.lt_succ_self _)).trans n5
end Go.Proofs.YthdhegmlknpllabGreatDoor

/-
  The net in memory: the source, its replicas, the letters on their way, the images.
-/
namespace Go.Proofs.YthdhegmlknpllabGreatDoor
open Go.RowKit Go.Maps Go.MuLone

/-- Where a replica lies, and its numbers. -/
structure RCfg where
  B : Nat
  b : Nat
  kb : Nat
  RB : Nat
  last : Int
  ra : Option Addr
  rs : List (Int × Int)
  rc : Nat
/-- A replica in memory. -/
structure RM (r : RCfg) (W : World) (R : Sto) : Prop where
  rk : RK r.B r.b r.kb r.RB W R r.last r.ra r.rs r.rc
  kb : W.heap[r.kb]? = some (.cells #[.pointer (some ⟨r.b, 0, none⟩), .int .i64 r.last, .slice r.ra r.rs.length r.rc] 98 (0, 0))
  ok : Kp.okRs r.rs = true ∧ 1 ≤ r.last ∧ r.last ≤ 12

/-- Does a letter go back? -/
def Lt.back : Lt → Bool
  | .inl _ => false
  | .inr (.inl (_, _, _, _, _)) => false
  | .inr (.inr (.inl (_, _))) => true
  | .inr (.inr (.inr (_, _))) => true
/-- Mail in memory. -/
def ml3 (n : Nat) (m : Nat × Lt) : List Value := [.int .i64 (m.1 : Int), .bool m.2.back, .string (m.2.txt m.1 n)]
def mlC (n : Nat) (l : List (Nat × Lt)) : List Value := l.flatMap (ml3 n)
theorem mlC_len (n : Nat) (l : List (Nat × Lt)) : (mlC n l).length = l.length * 3 := by
  induction l with
  | nil => rfl
  | cons x l ih => simp [mlC, ml3] at ih ⊢; omega
theorem mlC_get (n : Nat) (l : List (Nat × Lt)) (i : Nat) (h : i < l.length) : (mlC n l)[i * 3]? = some (.int .i64 (l[i].1 : Int)) ∧ (mlC n l)[i * 3 + 1]? = some (.bool l[i].2.back) ∧ (mlC n l)[i * 3 + 2]? = some (.string (l[i].2.txt l[i].1 n)) := by
  have hf : ∀ x : Nat × Lt, (ml3 n x).length = 3 := fun _ => rfl
  exact ⟨flat_get hf l i h 0 (by omega), flat_get hf l i h 1 (by omega), flat_get hf l i h 2 (by omega)⟩
/-- Pointers to the replicas. -/
def rpC (l : List RCfg) : List Value := l.map fun r => .pointer (some ⟨r.kb, 0, none⟩)
theorem rpC_len (l : List RCfg) : (rpC l).length = l.length := by simp [rpC]
/-- Images in memory: guid, time, and where the blocks lie. -/
def imCells (im : List Img) (vs : List Value) : List (Int × Int × Value) := (List.range im.length).map fun j : Nat => ((1000001 + (j : Int)), ((im.getD j ⟨0, []⟩).time, vs.getD j (.slice none 0 0)))
def b4S (l : List B4) : List Value := l.map B4.str

structure NM (nb BN n : Nat) (c : SCfg) (rcs : List RCfg) (W : World) (S : Sto) (ti : Int) (ps : List Pe) (im : List Img) (Rs : List Sto) (way : List (Nat × Lt)) (rv wv iv : Value) (vs : List Value) : Prop where
  sk : SKc c W S ti ps
  rl : rcs.length = Rs.length
  rm : ∀ (i : Nat) (r : RCfg) (R : Sto), rcs[i]? = some r → Rs[i]? = some R → RM r W R
  dS : ∀ (i : Nat) (r : RCfg) (R : Sto), rcs[i]? = some r → Rs[i]? = some R → ∀ k ∈ foot r.b R, k ∉ foot c.b S
  dR : ∀ (i j : Nat) (r : RCfg) (R : Sto) (r' : RCfg) (R' : Sto), i ≠ j → rcs[i]? = some r → Rs[i]? = some R → rcs[j]? = some r' → Rs[j]? = some R' → ∀ k ∈ foot r.b R, k ∉ foot r'.b R'
  blk : W.heap[nb]? = some (.cells #[.pointer (some ⟨c.xb, 0, none⟩), rv, .int .i64 n, wv, iv] 32 (0, 0))
  ro : W.ownsRow BN 46 1 rv rcs.length (rpC rcs)
  wo : W.ownsRow BN 108 3 wv way.length (mlC n way)
  io : W.ownsRow BN 60 3 iv im.length (imC (imCells im vs))
  vo : ∀ j, j < im.length → W.ownsRow BN 9 1 (vs.getD j (.slice none 0 0)) n (b4S (im.getD j ⟨0, []⟩).blk)
  vl : vs.length = im.length
  hnb : BN ≤ nb

section
variable {nb BN n : Nat} {c : SCfg} {rcs : List RCfg} {W W' : World} {S S' : Sto} {ti ti' : Int} {ps ps' : List Pe} {im : List Img} {Rs : List Sto} {way : List (Nat × Lt)} {rv wv iv : Value} {vs : List Value}

/-- A row is kept where no block of its type is written. -/
theorem own_tagged {F : List Nat} {base : Nat} {e : TypeId} {size : Nat} {v : Value} {k : Nat} {xs : List Value} (h : W.ownsRow base e size v k xs) (hf : Fr F W W') (ht : ∀ j ∈ F, ∀ cur, W.heap[j]? ≠ some (.cells cur e (0, 0))) : W'.ownsRow base e size v k xs :=
  own_fr h hf (fun j hj hm => by
    obtain ⟨_, cur, h4⟩ := own_tag h hj
    exact ht j hm cur h4)
theorem RM.fr {r : RCfg} {R : Sto} {F : List Nat} (h : RM r W R) (hf : Fr F W W') (hF : ∀ k ∈ foot r.b R, k ∉ F) (ht : ∀ j ∈ F, ∀ cur t, W.heap[j]? = some (.cells cur t (0, 0)) → t ≠ 98 ∧ t ≠ 158) : RM r W' R := by
  have hk : r.kb ∉ F := fun hm => (ht _ hm _ _ h.kb).1 rfl
  exact ⟨⟨h.rk.rep.kept hf hF, h.rk.kp.fr hf hk, h.rk.kn, own_tagged h.rk.ru hf (fun j hj cur e => (ht j hj cur _ e).2 rfl)⟩, by rw [hf.block _ (Array.getElem?_eq_some_iff.1 h.kb).1 hk]; exact h.kb, h.ok⟩
theorem SK.fr {s : Sto} {F : List Nat} (h : SKc c W s ti ps) (hf : Fr F W W') (hF : ∀ k ∈ foot c.b s, k ∉ F) (ht : ∀ j ∈ F, ∀ cur t, W.heap[j]? = some (.cells cur t (0, 0)) → t ≠ 73 ∧ t ≠ 112 ∧ t ≠ 158) : SKc c W' s ti ps :=
  ⟨h.rep.kept hf hF, by rw [hf.block _ (Array.getElem?_eq_some_iff.1 h.blk).1 (fun hm => (ht _ hm _ _ h.blk).1 rfl)]; exact h.blk, by rw [hf.block _ (Array.getElem?_eq_some_iff.1 h.pr).1 (fun hm => (ht _ hm _ _ h.pr).2.1 rfl)]; exact h.pr, own_tagged h.ru hf (fun j hj cur e => (ht j hj cur _ e).2.2 rfl)⟩
/-- What types a store's blocks have. -/
theorem foot_tag {B b : Nat} {q : Int} {s : Sto} (h : Rep B W b q s) {k : Nat} (hk : k ∈ foot b s) {cur : Array Value} {t : TypeId} {fr : Nat × Nat} (e : W.heap[k]? = some (.cells cur t fr)) : t = 86 ∨ t = 92 ∨ t = 88 ∨ t = 120 ∨ t = 5 := by
  apply Classical.byContradiction
  intro hn
  refine tag_foot h e ?_ hk
  exact ⟨fun e => hn (Or.inl e), fun e => hn (Or.inr (Or.inl e)), fun e => hn (Or.inr (Or.inr (Or.inl e))), fun e => hn (Or.inr (Or.inr (Or.inr (Or.inl e)))), fun e => hn (Or.inr (Or.inr (Or.inr (Or.inr e))))⟩

theorem NM.same (h : NM nb BN n c rcs W S ti ps im Rs way rv wv iv vs) (hf : Fr [] W W') : NM nb BN n c rcs W' S ti ps im Rs way rv wv iv vs :=
  ⟨SK.same h.sk hf, h.rl, fun i r R h1 h2 => (h.rm i r R h1 h2).fr hf (by simp) (by simp), h.dS, h.dR, by rw [hf.block nb (Array.getElem?_eq_some_iff.1 h.blk).1 (by simp)]; exact h.blk, own_fr' h.ro hf, own_fr' h.wo hf, own_fr' h.io hf, fun j hj => own_fr' (h.vo j hj) hf, h.vl, h.hnb⟩

theorem src_tags (h : SKc c W S ti ps) : ∀ j ∈ c.xb :: c.pb :: foot c.b S, ∀ cur t, W.heap[j]? = some (.cells cur t (0, 0)) → t = 73 ∨ t = 112 ∨ t = 86 ∨ t = 92 ∨ t = 88 ∨ t = 120 ∨ t = 5 := fun j hj cur t e => by
  simp only [List.mem_cons] at hj
  rcases hj with rfl | rfl | hj
  · have h1 := h.blk
    rw [e] at h1
    simp at h1
    exact Or.inl h1.2
  · have h1 := h.pr
    rw [e] at h1
    simp at h1
    exact Or.inr (Or.inl h1.2)
  · exact Or.inr (Or.inr (foot_tag h.rep hj e))

/-- The source went on. -/
theorem NM.source (h : NM nb BN n c rcs W S ti ps im Rs way rv wv iv vs) (s : SS c W W' S S' ti' ps') : NM nb BN n c rcs W' S' ti' ps' im Rs way rv wv iv vs := by
  have tg := src_tags h.sk
  have hno : ∀ t : TypeId, (t ≠ 73 ∧ t ≠ 112 ∧ t ≠ 86 ∧ t ≠ 92 ∧ t ≠ 88 ∧ t ≠ 120 ∧ t ≠ 5) → ∀ j ∈ c.xb :: c.pb :: foot c.b S, ∀ cur, W.heap[j]? ≠ some (.cells cur t (0, 0)) := fun t ht j hj cur e => by
    rcases tg j hj cur t e with r | r | r | r | r | r | r
    · exact ht.1 r
    · exact ht.2.1 r
    · exact ht.2.2.1 r
    · exact ht.2.2.2.1 r
    · exact ht.2.2.2.2.1 r
    · exact ht.2.2.2.2.2.1 r
    · exact ht.2.2.2.2.2.2 r
  refine ⟨s.sk, h.rl, fun i r R h1 h2 => (h.rm i r R h1 h2).fr s.fr (fun k hk hm => ?_) (fun j hj cur t e => ?_), fun i r R h1 h2 k hk hm => ?_, h.dR, ?_, own_tagged h.ro s.fr (hno 46 (by decide)), own_tagged h.wo s.fr (hno 108 (by decide)), own_tagged h.io s.fr (hno 60 (by decide)), fun j hj => own_tagged (h.vo j hj) s.fr (hno 9 (by decide)), h.vl, h.hnb⟩
  · simp only [List.mem_cons] at hm
    rcases hm with rfl | rfl | hm
    · exact tag_foot (h.rm i r R h1 h2).rk.rep h.sk.blk (by decide) hk
    · exact tag_foot (h.rm i r R h1 h2).rk.rep h.sk.pr (by decide) hk
    · exact h.dS i r R h1 h2 k hk hm
  · rcases tg j hj cur t e with r | r | r | r | r | r | r <;> subst r <;> decide
  · rcases s.ft k hm with h3 | h3
    · exact h.dS i r R h1 h2 k hk h3
    · have := ((h.rm i r R h1 h2).rk.rep.lt k hk).2
      omega
  · rw [s.fr.block nb (Array.getElem?_eq_some_iff.1 h.blk).1 (fun hm => hno 32 (by decide) nb hm _ h.blk)]
    exact h.blk

/-- A replica went on. -/
theorem NM.replica (h : NM nb BN n c rcs W S ti ps im Rs way rv wv iv vs) {i : Nat} {r : RCfg} {R R' : Sto} (hr : rcs[i]? = some r) (hR : Rs[i]? = some R) (rk : RK r.B r.b r.kb r.RB W' R' r.last r.ra r.rs r.rc) (hf : Fr (foot r.b R) W W') (ft : ∀ k ∈ foot r.b R', k ∈ foot r.b R ∨ W.heap.size ≤ k) : NM nb BN n c rcs W' S ti ps im (Rs.set i R') way rv wv iv vs := by
  have m := h.rm i r R hr hR
  have tg : ∀ j ∈ foot r.b R, ∀ cur t, W.heap[j]? = some (.cells cur t (0, 0)) → t = 86 ∨ t = 92 ∨ t = 88 ∨ t = 120 ∨ t = 5 := fun j hj cur t e => foot_tag m.rk.rep hj e
  have hno : ∀ t : TypeId, (t ≠ 86 ∧ t ≠ 92 ∧ t ≠ 88 ∧ t ≠ 120 ∧ t ≠ 5) → ∀ j ∈ foot r.b R, ∀ cur, W.heap[j]? ≠ some (.cells cur t (0, 0)) := fun t ht j hj cur e => by
    rcases tg j hj cur t e with q | q | q | q | q
    · exact ht.1 q
    · exact ht.2.1 q
    · exact ht.2.2.1 q
    · exact ht.2.2.2.1 q
    · exact ht.2.2.2.2 q
  have hi : i < Rs.length := (List.getElem?_eq_some_iff.1 hR).1
  have hget : ∀ {j : Nat} {R2 : Sto}, (Rs.set i R')[j]? = some R2 → (j = i ∧ R2 = R') ∨ (j ≠ i ∧ Rs[j]? = some R2) := fun {j R2} e => by
    by_cases hj : j = i
    · subst hj
      rw [List.getElem?_set_self hi] at e
      exact Or.inl ⟨rfl, (Option.some.inj e).symm⟩
    · rw [List.getElem?_set_ne (Ne.symm hj)] at e
      exact Or.inr ⟨hj, e⟩
  refine ⟨SK.fr h.sk hf (fun k hk hm => h.dS i r R hr hR k hm hk) (fun j hj cur t e => ?_), by rw [List.length_set]; exact h.rl, fun j r2 R2 h1 h2 => ?_, fun j r2 R2 h1 h2 k hk hm => ?_, fun j j' r2 R2 r3 R3 hne h1 h2 h3 h4 k hk hm => ?_, ?_, own_tagged h.ro hf (hno 46 (by decide)), own_tagged h.wo hf (hno 108 (by decide)), own_tagged h.io hf (hno 60 (by decide)), fun j hj => own_tagged (h.vo j hj) hf (hno 9 (by decide)), h.vl, h.hnb⟩
  · rcases tg j hj cur t e with q | q | q | q | q <;> subst q <;> decide
  · rcases hget h2 with ⟨rfl, rfl⟩ | ⟨hj, h3⟩
    · rw [hr] at h1
      cases h1
      exact ⟨rk, by rw [hf.block _ (Array.getElem?_eq_some_iff.1 m.kb).1 (fun hm => hno 98 (by decide) _ hm _ m.kb)]; exact m.kb, m.ok⟩
    · exact (h.rm j r2 R2 h1 h3).fr hf (h.dR j i r2 R2 r R hj h1 h3 hr hR) (fun j' hj' cur t e => by rcases tg j' hj' cur t e with q | q | q | q | q <;> subst q <;> decide)
  · rcases hget h2 with ⟨rfl, rfl⟩ | ⟨hj, h3⟩
    · rw [hr] at h1
      cases h1
      rcases ft k hk with h5 | h5
      · exact h.dS j r R hr hR k h5 hm
      · have := (h.sk.rep.lt k hm).2
        omega
    · exact h.dS j r2 R2 h1 h3 k hk hm
  · rcases hget h2 with ⟨rfl, rfl⟩ | ⟨hj, h5⟩
    · rw [hr] at h1
      cases h1
      rcases hget h4 with ⟨rfl, rfl⟩ | ⟨hj', h6⟩
      · exact hne rfl
      · rcases ft k hk with h7 | h7
        · exact h.dR j j' r R r3 R3 hne hr hR h3 h6 k h7 hm
        · have := ((h.rm j' r3 R3 h3 h6).rk.rep.lt k hm).2
          omega
    · rcases hget h4 with ⟨rfl, rfl⟩ | ⟨hj', h6⟩
      · rw [hr] at h3
        cases h3
        rcases ft k hm with h7 | h7
        · exact h.dR j j' r2 R2 r R hne h1 h5 hr hR k hk h7
        · have := ((h.rm j r2 R2 h1 h5).rk.rep.lt k hk).2
          omega
      · exact h.dR j j' r2 R2 r3 R3 hne h1 h5 h3 h6 k hk hm
  · rw [hf.block nb (Array.getElem?_eq_some_iff.1 h.blk).1 (fun hm => hno 32 (by decide) nb hm _ h.blk)]
    exact h.blk
end
end Go.Proofs.YthdhegmlknpllabGreatDoor
