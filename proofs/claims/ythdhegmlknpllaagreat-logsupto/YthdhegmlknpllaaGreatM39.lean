import Derived.Test.YthdhegmlknpllaaGreatM38
namespace Go.Proofs.YthdhegmlknpllaaGreat
open Go.RowKit Go.Maps Go.MuLone
section
variable {O : Obj} {B : Nat} {w w1 w2 W : World} {db b rb : Nat} {s s' : Sto} {r r' : RSto} {q : Nat}
theorem foot_tag {z : Int} (h : Rep B w b z s) {k : Nat} (hk : k ∈ foot b s) {cur : Array Value} {t : TypeId} {fr : Nat × Nat} (e : w.heap[k]? = some (.cells cur t fr)) : t = 76 ∨ t = 112 ∨ t = 119 ∨ t = 125 ∨ t = 5 := by
 simp only [foot, List.mem_append, List.mem_cons, List.not_mem_nil, or_false, Option.mem_toList] at hk
 rcases hk with (((rfl | rfl | rfl) | h1) | h1) | h1
 · have h2 := h.blk
   rw [e] at h2
   simp [Sto.blk] at h2
   exact Or.inl h2.2.1
 · have h2 := h.vol
   rw [e] at h2
   simp at h2
   exact Or.inr (Or.inl h2.2.1)
 · obtain ⟨es, c, h1⟩ := h.th.at
   rw [h1] at e
   simp at e
 · obtain ⟨_, cur', h2⟩ := own_tag h.ss h1
   rw [h2] at e
   simp at e
   exact Or.inr (Or.inr (Or.inl e.2.1.symm))
 · obtain ⟨_, cur', h2⟩ := own_tag h.ms h1
   rw [h2] at e
   simp at e
   exact Or.inr (Or.inr (Or.inr (Or.inl e.2.1.symm)))
 · obtain ⟨_, cur', h2⟩ := own_tag h.lg h1
   rw [h2] at e
   simp at e
   exact Or.inr (Or.inr (Or.inr (Or.inr e.2.1.symm)))
theorem rfoot_tag (h : RRep B w rb r) {k : Nat} (hk : k ∈ rfoot rb r) {cur : Array Value} {t : TypeId} {fr : Nat × Nat} (e : w.heap[k]? = some (.cells cur t fr)) : t = 86 ∨ t = 117 ∨ t = 129 := by
 simp only [rfoot, List.mem_append, List.mem_cons, List.not_mem_nil, or_false, Option.mem_toList] at hk
 rcases hk with (rfl | h1) | h1
 · have h2 := h.blk
   rw [e] at h2
   simp at h2
   exact Or.inl h2.2.1
 · obtain ⟨_, cur', h2⟩ := own_tag h.sh h1
   rw [h2] at e
   simp at e
   exact Or.inr (Or.inl e.2.1.symm)
 · obtain ⟨_, cur', h2⟩ := own_tag h.ms h1
   rw [h2] at e
   simp at e
   exact Or.inr (Or.inr e.2.1.symm)
def sdO (b rb : Nat) (lnv : Value) : Obj := .cells #[.pointer (some ⟨b, 0, none⟩), .pointer (some ⟨rb, 0, none⟩), lnv] 53 (0, 0)
def LStep (lg : List UInt8) (r : RSto) (lg' : List UInt8) (r' : RSto) : Prop := (lg' = lg ∧ RQ r r') ∨ ∃ e, lg' = lg ++ e ∧ Redo e r r'
theorem LStep.stay (lg : List UInt8) (r : RSto) : LStep lg r lg r := Or.inl ⟨rfl, RQ.refl r⟩
theorem LStep.by {e : List UInt8} {lg : List UInt8} (h : Redo e r r') : LStep lg r (lg ++ e) r' := Or.inr ⟨e, rfl, h⟩
structure SD (O : Obj) (B : Nat) (w : World) (db b rb : Nat) (s : Sto) (r : RSto) : Prop where
 blk : w.heap[db]? = some O
 rep : Rep B w b 0 s
 rrep : RRep B w rb r
 dis : ∀ k ∈ foot b s, k ∉ rfoot rb r
 hdb : B ≤ db
 ndb : db ∉ foot b s ++ rfoot rb r
def sft (b rb : Nat) (s : Sto) (r : RSto) : List Nat := foot b s ++ rfoot rb r
theorem sft_no (rp : Rep B w b 0 s) (rr : RRep B w rb r) {k : Nat} {cur : Array Value} {t : TypeId} (e : w.heap[k]? = some (.cells cur t (0, 0))) (ht : t ≠ 76 ∧ t ≠ 112 ∧ t ≠ 119 ∧ t ≠ 125 ∧ t ≠ 5 ∧ t ≠ 86 ∧ t ≠ 117 ∧ t ≠ 129) : k ∉ sft b rb s r := fun hm => by
 rcases List.mem_append.1 hm with hm | hm
 · rcases foot_tag rp hm e with h | h | h | h | h
   · exact ht.1 h
   · exact ht.2.1 h
   · exact ht.2.2.1 h
   · exact ht.2.2.2.1 h
   · exact ht.2.2.2.2.1 h
 · rcases rfoot_tag rr hm e with h | h | h
   · exact ht.2.2.2.2.2.1 h
   · exact ht.2.2.2.2.2.2.1 h
   · exact ht.2.2.2.2.2.2.2 h
theorem SD.no (h : SD O B w db b rb s r) {k : Nat} {cur : Array Value} {t : TypeId} (e : w.heap[k]? = some (.cells cur t (0, 0))) (ht : t ≠ 76 ∧ t ≠ 112 ∧ t ≠ 119 ∧ t ≠ 125 ∧ t ≠ 5 ∧ t ≠ 86 ∧ t ≠ 117 ∧ t ≠ 129) : k ∉ sft b rb s r := sft_no h.rep h.rrep e ht
theorem SD.lt (h : SD O B w db b rb s r) : ∀ k ∈ sft b rb s r, B ≤ k ∧ k < w.heap.size := fun k hk => by
 rcases List.mem_append.1 hk with hk | hk
 · exact h.rep.lt k hk
 · exact h.rrep.lt k hk
theorem SD.fr (h : SD O B w db b rb s r) {F : List Nat} (hf : Fr F w W) (hn : ∀ k ∈ sft b rb s r, k ∉ F) (hd : db ∉ F) : SD O B W db b rb s r :=
 ⟨by rw [hf.block db (Array.getElem?_eq_some_iff.1 h.blk).1 hd]; exact h.blk, h.rep.kept hf (fun k hk => hn k (List.mem_append_left _ hk)), h.rrep.kept hf (fun k hk => hn k (List.mem_append_right _ hk)), h.dis, h.hdb, h.ndb⟩
theorem SD.same (h : SD O B w db b rb s r) (hf : Fr [] w W) : SD O B W db b rb s r := h.fr hf (by simp) (by simp)
def SN (O : Obj) (B : Nat) (w w' : World) (db b rb : Nat) (s : Sto) (r : RSto) (q : Nat) : Prop :=
 ∃ s' r', SD O B w' db b rb s' r' ∧ Sim s' r' (q + 1) ∧ Fr (sft b rb s r) w w' ∧ (∀ k ∈ sft b rb s' r', k ∈ sft b rb s r ∨ w.heap.size ≤ k) ∧ LStep s.log r s'.log r'
theorem SD.pair (h : SD O B w db b rb s r) (rp : Rep B w1 b 0 s') (f1 : Fr (foot b s) w w1) (g1 : ∀ k ∈ foot b s', k ∈ foot b s ∨ w.heap.size ≤ k) {f : Nat} {args : Array Value} {v : Value}
  (hr : ∀ W, RRep B W rb r → Calls Tryz.prog f args W fun e w2 => e = .returned v ∧ ∃ r', RRep B w2 rb r' ∧ Fr (rfoot rb r) W w2 ∧ (∀ k ∈ rfoot rb r', k ∈ rfoot rb r ∨ W.heap.size ≤ k) ∧ Sim s' r' (q + 1) ∧ LStep s.log r s'.log r') :
  (w1.heap[db]? = some O ∧ Fr (sft b rb s r) w w1) ∧ ∀ W, Fr [] w1 W → Calls Tryz.prog f args W fun e w2 => e = .returned v ∧ SN O B w w2 db b rb s r q := by
 have hd1 : db ∉ foot b s := fun hm => h.ndb (List.mem_append_left _ hm)
 have b1 : w1.heap[db]? = some O := by rw [f1.block db (Array.getElem?_eq_some_iff.1 h.blk).1 hd1]; exact h.blk
 refine ⟨⟨b1, f1.mono (fun k hk => List.mem_append_left _ hk)⟩, fun W hW => ?_⟩
 have rr1 : RRep B w1 rb r := h.rrep.kept f1 (fun k hk hm => h.dis k hm hk)
 have rrW := rr1.kept0 hW
 refine (hr W rrW).mono ?_
 rintro e w2 ⟨he, r', rr', f2, g2, m, ls⟩
 have dis1 : ∀ k ∈ foot b s', k ∉ rfoot rb r := fun k hk hm => by
  rcases g1 k hk with h1 | h1
  · exact h.dis k h1 hm
  · have := (h.rrep.lt k hm).2
    omega
 have rpW := rp.kept0 hW
 have rp2 : Rep B w2 b 0 s' := rpW.kept f2 dis1
 have bW : W.heap[db]? = some O := by rw [hW.block db (Array.getElem?_eq_some_iff.1 b1).1 (by simp)]; exact b1
 have b2 : w2.heap[db]? = some O := by
  rw [f2.block db (Array.getElem?_eq_some_iff.1 bW).1 (fun hm => h.ndb (List.mem_append_right _ hm))]
  exact bW
 have hf : Fr (sft b rb s r) w w2 := ((f1.mono (fun k hk => List.mem_append_left _ hk)).trans hW (by simp)).trans f2 (fun k hk => Or.inl (List.mem_append_right _ hk))
 have hg : ∀ k ∈ sft b rb s' r', k ∈ sft b rb s r ∨ w.heap.size ≤ k := fun k hk => by
  rcases List.mem_append.1 hk with hk | hk
  · rcases g1 k hk with h1 | h1
    · exact Or.inl (List.mem_append_left _ h1)
    · exact Or.inr h1
  · rcases g2 k hk with h1 | h1
    · exact Or.inl (List.mem_append_right _ h1)
    · exact Or.inr (Nat.le_trans (Nat.le_trans f1.size hW.size) h1)
 refine ⟨he, s', r', ⟨b2, rp2, rr', fun k hk hm => ?_, h.hdb, fun hm => ?_⟩, m, hf, hg, ls⟩
 · rcases g2 k hm with h1 | h1
   · exact dis1 k hk h1
   · have := (rpW.lt k hk).2
     omega
 · rcases hg db hm with h1 | h1
   · exact h.ndb h1
   · have := (Array.getElem?_eq_some_iff.1 h.blk).1
     omega
def PC {α : Type} (f : α → Value) (O : Obj) (B : Nat) (w : World) (db b rb : Nat) (s : Sto) (r : RSto) (q fr : Nat) (args : Array Value) (e : Ending) (w1 : World) : Prop :=
 ∃ a : α, e = .returned (f a) ∧ (w1.heap[db]? = some O ∧ Fr (sft b rb s r) w w1) ∧ ∀ W, Fr [] w1 W → Calls Tryz.prog fr args W fun e2 w2 => e2 = .returned (f a) ∧ SN O B w w2 db b rb s r q
def fC (c : Int) : Value := .int .i64 c
def fT (p : ByteArray × Int) : Value := .tuple #[.string p.1, .int .i64 p.2]
def fI (p : Int × Int) : Value := .tuple #[.int .i64 p.1, .int .i64 p.2]
theorem still (h : Sim s r q) {v : Value} {f : Nat} {args : Array Value} (hc : ∀ W, RRep B W rb r → Calls Tryz.prog f args W fun e w2 => e = .returned v ∧ w2 = W) : ∀ W, RRep B W rb r → Calls Tryz.prog f args W fun e w2 => e = .returned v ∧ ∃ r', RRep B w2 rb r' ∧ Fr (rfoot rb r) W w2 ∧ (∀ k ∈ rfoot rb r', k ∈ rfoot rb r ∨ W.heap.size ≤ k) ∧ Sim s r' (q + 1) ∧ LStep s.log r s.log r' := fun W hW => by
 refine (hc W hW).mono ?_
 rintro e w2 ⟨he, rfl⟩
 exact ⟨he, r, hW, Fr.refl _ _, fun k hk => Or.inl hk, h.le (by omega), LStep.stay _ _⟩
def PS {α : Type} (f : α → Value) (O : Obj) (B : Nat) (w : World) (db b rb : Nat) (s : Sto) (r : RSto) (fr : Nat) (args : Array Value) (e : Ending) (w1 : World) : Prop :=
 ∃ a : α, e = .returned (f a) ∧ (SD O B w1 db b rb s r ∧ Fr (sft b rb s r) w w1) ∧ ∀ W, Fr [] w1 W → Calls Tryz.prog fr args W fun e2 w2 => e2 = .returned (f a) ∧ SD O B w2 db b rb s r ∧ Fr (sft b rb s r) w w2
theorem PS.pc {α : Type} {f : α → Value} {fr : Nat} {args : Array Value} {e : Ending} (h : PS f O B w db b rb s r fr args e w1) (m : Sim s r q) : PC f O B w db b rb s r q fr args e w1 := by
 obtain ⟨a, he, ⟨sd, f1⟩, hr⟩ := h
 refine ⟨a, he, ⟨sd.blk, f1⟩, fun W hW => (hr W hW).mono ?_⟩
 rintro e2 w2 ⟨h2, sd2, f2⟩
 exact ⟨h2, s, r, sd2, m.le (by omega), f2, fun k hk => Or.inl hk, LStep.stay _ _⟩
theorem SD.pairS (h : SD O B w db b rb s r) (rp : Rep B w1 b 0 s) (f1 : Fr (foot b s) w w1) {f : Nat} {args : Array Value} {v : Value}
  (hr : ∀ W, RRep B W rb r → Calls Tryz.prog f args W fun e w2 => e = .returned v ∧ Fr [] W w2) :
  (SD O B w1 db b rb s r ∧ Fr (sft b rb s r) w w1) ∧ ∀ W, Fr [] w1 W → Calls Tryz.prog f args W fun e w2 => e = .returned v ∧ SD O B w2 db b rb s r ∧ Fr (sft b rb s r) w w2 := by
 have hf : Fr (sft b rb s r) w w1 := f1.mono (fun k hk => List.mem_append_left _ hk)
 have sd1 : SD O B w1 db b rb s r := ⟨by rw [f1.block db (Array.getElem?_eq_some_iff.1 h.blk).1 (fun hm => h.ndb (List.mem_append_left _ hm))]; exact h.blk, rp, h.rrep.kept f1 (fun k hk hm => h.dis k hm hk), h.dis, h.hdb, h.ndb⟩
 refine ⟨⟨sd1, hf⟩, fun W hW => (hr W (sd1.rrep.kept0 hW)).mono ?_⟩
 rintro e w2 ⟨he, f2⟩
 exact ⟨he, (sd1.same hW).same f2, (hf.trans hW (by simp)).trans f2 (by simp)⟩
theorem stillS {v : Value} {f : Nat} {args : Array Value} (hc : ∀ W, RRep B W rb r → Calls Tryz.prog f args W fun e w2 => e = .returned v ∧ w2 = W) : ∀ W, RRep B W rb r → Calls Tryz.prog f args W fun e w2 => e = .returned v ∧ Fr [] W w2 := fun W hW => by
 refine (hc W hW).mono ?_
 rintro e w2 ⟨he, rfl⟩
 exact ⟨he, Fr.refl _ _⟩
theorem p_write (h : SD O B w db b rb s r) (m : Sim s r q) (k : Int) (t : ByteArray) (hq : q ≤ 2000000) :
  Calls Tryz.prog 25 #[.pointer (some ⟨b, 0, none⟩), .int .i64 k, .string t] w (PC fC O B w db b rb s r q 26 #[.pointer (some ⟨rb, 0, none⟩), .int .i64 k, .string t]) := by
 by_cases hb : (decide (0 ≤ k) && decide (k < s.vol.length)) = false ∨ ((t.size : Int) != 4) = true
 · refine (write_bad B b s k t w h.rep hb).mono ?_
   rintro e w1 ⟨rfl, rp, f1⟩
   obtain ⟨b1, hr⟩ := h.pair rp f1 (fun k hk => Or.inl hk) (still m (fun W hW => rwrite_bad B rb r k t W hW (by rw [m.bl.1]; exact hb)))
   exact ⟨1, rfl, b1, hr⟩
 · have hk : 0 ≤ k ∧ k < s.vol.length := by
     have : ¬ (decide (0 ≤ k) && decide (k < s.vol.length)) = false := fun e => hb (Or.inl e)
     simpa using this
   have ht : t.size = 4 := by
    have : ¬ ((t.size : Int) != 4) = true := fun e => hb (Or.inr e)
    simp at this
    omega
   obtain ⟨x, rfl⟩ := four ht
   obtain ⟨n, rfl⟩ : ∃ n : Nat, k = (n : Int) := ⟨k.toNat, by omega⟩
   have hn : n < s.vol.length := by omega
   refine (write_ok B b s n x w h.rep hn (by have := m.lg; omega)).mono ?_
   rintro e w1 ⟨rfl, lv, rp, f1, o1⟩
   obtain ⟨b1, hr⟩ := h.pair rp f1 (noted_foot o1) (f := 26) (args := #[.pointer (some ⟨rb, 0, none⟩), .int .i64 n, .string x.ba]) (v := .int .i64 0) (q := q) (fun W hW => by
    refine (rwrite_ok B rb r n x.ba W hW (by rw [m.bl.1]; exact hn) (by rw [m.bl.1]; exact m.bl.2.2) rfl (by have := m.rn; omega)).mono ?_
    rintro e w2 ⟨rfl, rr, f2⟩
    exact ⟨rfl, _, rr, f2, fun k hk => Or.inl hk, m.write hW.d16 hW.b16 hn x (by show (wtext n x).size ≤ 50; exact (by rfl : (wtext n x).size = 5) ▸ (by omega)), LStep.by (r_write hW.rwf (by rw [m.bl.1]; exact m.bl.2.2) n x (by rw [m.bl.1]; exact hn))⟩)
   exact ⟨0, rfl, b1, hr⟩
theorem s_read (h : SD O B w db b rb s r) (m : Sim s r q) (k : Int) :
  Calls Tryz.prog 27 #[.pointer (some ⟨b, 0, none⟩), .int .i64 k] w (PS fT O B w db b rb s r 28 #[.pointer (some ⟨rb, 0, none⟩), .int .i64 k]) := by
 by_cases hb : (decide (0 ≤ k) && decide (k < s.vol.length)) = false
 · refine (read_bad B b s k w h.rep hb).mono ?_
   rintro e w1 ⟨rfl, rp, f1⟩
   obtain ⟨b1, hr⟩ := h.pairS rp f1 (stillS (fun W hW => rread_bad B rb r k W hW (by rw [m.bl.1]; exact hb)))
   exact ⟨(⟨#[]⟩, 1), rfl, b1, hr⟩
 · have hk : 0 ≤ k ∧ k < s.vol.length := by simpa using hb
   obtain ⟨n, rfl⟩ : ∃ n : Nat, k = (n : Int) := ⟨k.toNat, by omega⟩
   have hn : n < s.vol.length := by omega
   refine (read_ok B b s n w h.rep hn).mono ?_
   rintro e w1 ⟨rfl, rp, f1⟩
   obtain ⟨b1, hr⟩ := h.pairS rp f1 (stillS (v := fT (s.vol[n].x.ba, 0)) (fun W hW => by
    have h8 := rread_ok B rb r n W hW (by rw [m.bl.1]; exact hn) (by rw [m.bl.1]; exact m.bl.2.2)
    have e := m.dat n hn
    rw [List.getElem?_eq_getElem (by rw [hW.d16]; have := m.bl.2.2; omega)] at e
    simp only [Option.some.injEq] at e
    rw [e] at h8
    exact h8))
   exact ⟨(s.vol[n].x.ba, 0), rfl, b1, hr⟩
theorem p_read (h : SD O B w db b rb s r) (m : Sim s r q) (k : Int) :
  Calls Tryz.prog 27 #[.pointer (some ⟨b, 0, none⟩), .int .i64 k] w (PC fT O B w db b rb s r q 28 #[.pointer (some ⟨rb, 0, none⟩), .int .i64 k]) := (s_read h m k).mono fun _ _ hp => hp.pc m
end
section
variable {O : Obj} {B : Nat} {w w1 w2 W : World} {db b rb : Nat} {s s' : Sto} {r r' : RSto} {q : Nat}
theorem Sim.g32 (m : Sim s r q) {x : Sn} (hxm : x ∈ s.ss) {g : Int} (hxg : x.guid = g) : 0 ≤ g ∧ g < 4294967296 := by
 have := m.gr g (mem_gls.2 (Or.inl ⟨x, hxm, hxg⟩))
 omega
theorem g32m (m : Sim s r q) {i : Nat} {g : Int} (em : fi (fun y : Int × Int => y.1 == g) 0 s.ms = (i : Int)) : 0 ≤ g ∧ g < 4294967296 := by
 rcases fi_cases (fun y : Int × Int => y.1 == g) s.ms with e | ⟨j, hj, e, hp⟩
 · rw [e] at em
   omega
 · have hp1 : s.ms[j].1 = g := by simpa using hp
   have := m.gr g (mem_gls.2 (Or.inr ⟨s.ms[j], List.getElem_mem _, hp1⟩))
   omega
theorem p_snap (h : SD O B w db b rb s r) (m : Sim s r q) (t : Int) (hq : q ≤ 2000000) :
  Calls Tryz.prog 29 #[.pointer (some ⟨b, 0, none⟩), .int .i64 t] w (PC fI O B w db b rb s r q 30 #[.pointer (some ⟨rb, 0, none⟩), .int .i64 t]) := by
 by_cases ht : t < 0 ∨ 1073741824 < t
 · refine (snap_arg B b s t w h.rep ht).mono ?_
   rintro e w1 ⟨rfl, rp, f1⟩
   obtain ⟨b1, hr⟩ := h.pair rp f1 (fun k hk => Or.inl hk) (still m (fun W _ => rsnap_arg rb t W ht))
   exact ⟨(0, 1), rfl, b1, hr⟩
 · have ht' : 0 ≤ t ∧ t ≤ 1073741824 := by omega
   have hid : 1 ≤ r.id ∧ r.id ≤ 999 := by rw [m.id.1]; exact m.id.2
   have hl12 := m.len
   have e1 := m.last
   have e2 := m.glen
   have e3 := m.mlen
   have e4 := m.cm
   obtain ⟨n, hn, hrn⟩ := m.next
   have hlo := hn.lo
   by_cases hf : s.ss.length = 12 ∨ 999999 < n
   · refine (snap_full B b s n t w h.rep ht' m.id.2 e4.2 hn hl12.1 hl12.2 hf).mono ?_
     rintro e w1 ⟨rfl, rp, f1⟩
     obtain ⟨b1, hr⟩ := h.pair rp f1 (fun k hk => Or.inl hk) (still m (fun W hW => rsnap_full B rb r n t W hW ht' hid (by omega) hrn (by omega) (by omega) (by omega)))
     exact ⟨(0, 5), rfl, b1, hr⟩
   · have hcn := m.cn
     have hbl := m.bl
     refine (snap_ok B b s n t w h.rep ht' m.id.2 (by omega) hn (by omega) hl12.2 (by omega) hbl.2.2 (by unfold maxLen; omega) (by have := m.lg; omega)).mono ?_
     rintro e w1 ⟨rfl, sv, lv, rp, f1, o1, o2⟩
     have eg : gu s n = 1000000 * r.id + n := by have := m.id.1; unfold gu; omega
     have hg : gu s n ∉ gls s := fun hm => by
      have h8 := (hs_gls (gu s n)).2 hm
      rw [hn.yes] at h8
      cases h8
     have hgr : 1 ≤ gu s n ∧ gu s n ≤ 999999999 := by have := m.id.2; unfold gu; omega
     obtain ⟨b1, hr⟩ := h.pair rp f1 (foot_up rfl rfl o1 (fun k hk => Or.inl hk) o2) (f := 30) (args := #[.pointer (some ⟨rb, 0, none⟩), .int .i64 t]) (v := fI (gu s n, 0)) (q := q) (fun W hW => by
      refine (rsnap_ok B rb r n t W hW ht' hid (by omega) hrn (by omega) (by omega) (by have := m.rn; omega)).mono ?_
      rintro e w2 ⟨rfl, sv', rr, f2, o3⟩
      refine ⟨by rw [← eg]; rfl, _, rr, f2, rfoot_up o3 (fun k hk => Or.inl hk), ?_, LStep.by (r_snap t n sv' ht' hrn (by omega))⟩
      have h9 := m.come (sv := sv) (lv := lv) (sv' := sv') s.vol rfl r.dat r.born r.now ⟨Int.le_refl _, by omega⟩ m.dat (fun C cc => cc.vb) (gu s n) t hg hgr ht' (by omega) n (by omega) 83 (tx := (n4 t).ba) (by have := n4_size t; omega)
      unfold RSto.snap
      rw [← eg]
      exact h9)
     exact ⟨(gu s n, 0), rfl, b1, hr⟩
theorem p_at (h : SD O B w db b rb s r) (m : Sim s r q) (g k : Int) (hg64 : In64 g) :
  Calls Tryz.prog 35 #[.pointer (some ⟨b, 0, none⟩), .int .i64 g, .int .i64 k] w (PC fT O B w db b rb s r q 36 #[.pointer (some ⟨rb, 0, none⟩), .int .i64 g, .int .i64 k]) := by
 have hl12 := m.len.1
 have e2 := m.glen
 rcases simSpot m g with ⟨e, e'⟩ | ⟨j, x, y, hx, hy, e, e', hxg, hyg, hh, hxm, hym⟩
 · refine (at_none B b s g k w h.rep hl12 e).mono ?_
   rintro e w1 ⟨rfl, rp, f1⟩
   obtain ⟨b1, hr⟩ := h.pair rp f1 (fun k hk => Or.inl hk) (still m (fun W hW => rat_none B rb r g k W hW (by omega) e'))
   exact ⟨(⟨#[]⟩, 3), rfl, b1, hr⟩
 · by_cases hb : (decide (0 ≤ k) && decide (k < s.vol.length)) = false
   · refine (at_arg B b s g j k w h.rep hl12 e hb).mono ?_
     rintro e w1 ⟨rfl, rp, f1⟩
     obtain ⟨b1, hr⟩ := h.pair rp f1 (fun k hk => Or.inl hk) (still m (fun W hW => rat_arg B rb r g k j W hW (by omega) e' (by rw [m.bl.1]; exact hb)))
     exact ⟨(⟨#[]⟩, 1), rfl, b1, hr⟩
   · have hk : 0 ≤ k ∧ k < s.vol.length := by simpa using hb
     obtain ⟨n, rfl⟩ : ∃ n : Nat, k = (n : Int) := ⟨k.toNat, by omega⟩
     have hn : n < s.vol.length := by omega
     refine (at_ok B b s g n w h.rep (by omega) hg64 ⟨x, hxm, by simpa using hxg⟩ hn m.bl.2.2).mono ?_
     rintro e w1 ⟨rfl, rp, f1⟩
     obtain ⟨b1, hr⟩ := h.pair rp f1 (fun k hk => Or.inl hk) (still (v := fT ((s.th g n).x.ba, 0)) m (fun W hW => by
      have hw := hW.wf y hym
      have h8 := rat_ok B rb r g j n y W hW (by omega) e' hy (by rw [m.bl.1]; exact hn) (by rw [m.bl.1]; exact m.bl.2.2) hw
      have e3 := m.th y hym n hn
      rw [hyg, List.getElem?_eq_getElem (by rw [hw.1]; have := m.bl.2.2; omega)] at e3
      simp only [Option.some.injEq] at e3
      rw [e3] at h8
      exact h8))
     exact ⟨((s.th g n).x.ba, 0), rfl, b1, hr⟩
theorem p_hold (h : SD O B w db b rb s r) (m : Sim s r q) (g : Int) (hq : q ≤ 2000000) :
  Calls Tryz.prog 37 #[.pointer (some ⟨b, 0, none⟩), .int .i64 g] w (PC fC O B w db b rb s r q 38 #[.pointer (some ⟨rb, 0, none⟩), .int .i64 g]) := by
 have hl12 := m.len.1
 have e2 := m.glen
 rcases simSpot m g with ⟨e, e'⟩ | ⟨j, x, y, hx, hy, e, e', hxg, hyg, hh, hxm, hym⟩
 · refine (hold_none B b s g w h.rep hl12 e).mono ?_
   rintro e w1 ⟨rfl, rp, f1⟩
   obtain ⟨b1, hr⟩ := h.pair rp f1 (fun k hk => Or.inl hk) (still m (fun W hW => rhold_none B rb r g W hW (by omega) e'))
   exact ⟨3, rfl, b1, hr⟩
 · have hho := m.ho x hxm
   by_cases h9 : 9 ≤ x.holds
   · refine (hold_full B b s g j x w h.rep hl12 e hx h9).mono ?_
     rintro e w1 ⟨rfl, rp, f1⟩
     obtain ⟨b1, hr⟩ := h.pair rp f1 (fun k hk => Or.inl hk) (still m (fun W hW => rhold_full B rb r g j y W hW (by omega) e' hy (by omega)))
     exact ⟨5, rfl, b1, hr⟩
   · refine (hold_ok B b s g j x w h.rep hl12 e hx (by omega) (by have := m.lg; omega)).mono ?_
     rintro e w1 ⟨rfl, lv, rp, f1, o1⟩
     obtain ⟨b1, hr⟩ := h.pair rp f1 (foot_up rfl rfl (fun k hk => Or.inl hk) (fun k hk => Or.inl hk) o1) (f := 38) (args := #[.pointer (some ⟨rb, 0, none⟩), .int .i64 g]) (v := fC 0) (q := q) (fun W hW => by
      refine (rhold_ok B rb r g j y W hW (by omega) e' hy (by omega)).mono ?_
      rintro e w2 ⟨rfl, rr, f2⟩
      rw [hh] at rr
      exact ⟨rfl, _, rr, f2, fun k hk => Or.inl hk, m.setH hx hy (by omega) (n4_size g), by rw [← hh]; exact LStep.by (r_hold g (m.g32 hxm hxg) j y hy e' (by omega))⟩)
     exact ⟨0, rfl, b1, hr⟩
theorem p_release (h : SD O B w db b rb s r) (m : Sim s r q) (g : Int) (hq : q ≤ 2000000) :
  Calls Tryz.prog 39 #[.pointer (some ⟨b, 0, none⟩), .int .i64 g] w (PC fC O B w db b rb s r q 40 #[.pointer (some ⟨rb, 0, none⟩), .int .i64 g]) := by
 have hl12 := m.len.1
 have e2 := m.glen
 rcases simSpot m g with ⟨e, e'⟩ | ⟨j, x, y, hx, hy, e, e', hxg, hyg, hh, hxm, hym⟩
 · refine (release_none B b s g w h.rep hl12 e).mono ?_
   rintro e w1 ⟨rfl, rp, f1⟩
   obtain ⟨b1, hr⟩ := h.pair rp f1 (fun k hk => Or.inl hk) (still m (fun W hW => rrelease_none B rb r g W hW (by omega) e'))
   exact ⟨3, rfl, b1, hr⟩
 · have hho := m.ho x hxm
   by_cases h0 : x.holds = 0
   · refine (release_bad B b s g j x w h.rep hl12 e hx h0).mono ?_
     rintro e w1 ⟨rfl, rp, f1⟩
     obtain ⟨b1, hr⟩ := h.pair rp f1 (fun k hk => Or.inl hk) (still m (fun W hW => rrelease_bad B rb r g j y W hW (by omega) e' hy (by omega)))
     exact ⟨1, rfl, b1, hr⟩
   · refine (release_ok B b s g j x w h.rep hl12 e hx (by omega) (by have := m.lg; omega)).mono ?_
     rintro e w1 ⟨rfl, lv, rp, f1, o1⟩
     obtain ⟨b1, hr⟩ := h.pair rp f1 (foot_up rfl rfl (fun k hk => Or.inl hk) (fun k hk => Or.inl hk) o1) (f := 40) (args := #[.pointer (some ⟨rb, 0, none⟩), .int .i64 g]) (v := fC 0) (q := q) (fun W hW => by
      refine (rrelease_ok B rb r g j y W hW (by omega) e' hy (by omega)).mono ?_
      rintro e w2 ⟨rfl, rr, f2⟩
      rw [hh] at rr
      exact ⟨rfl, _, rr, f2, fun k hk => Or.inl hk, m.setH hx hy (by omega) (n4_size g), by rw [← hh]; exact LStep.by (r_release g (m.g32 hxm hxg) j y hy e' (by omega))⟩)
     exact ⟨0, rfl, b1, hr⟩
theorem p_mark (h : SD O B w db b rb s r) (m : Sim s r q) (g : Int) (hq : q ≤ 2000000) :
  Calls Tryz.prog 42 #[.pointer (some ⟨b, 0, none⟩), .int .i64 g] w (PC fC O B w db b rb s r q 43 #[.pointer (some ⟨rb, 0, none⟩), .int .i64 g]) := by
 have hl12 := m.len
 have e2 := m.glen
 have e3 := m.mlen
 rcases fi_cases (fun y : Int × Int => y.1 == g) s.ms with em | ⟨i, hi, em, _⟩
 · have em' : fi (fun y : Int × Int => y.1 == g) 0 r.ms = -1 := by rw [m.fim]; exact em
   rcases simSpot m g with ⟨e, e'⟩ | ⟨j, x, y, hx, hy, e, e', hxg, hyg, hh, hxm, hym⟩
   · refine (mark_none B b s g w h.rep hl12.2 hl12.1 em e).mono ?_
     rintro e w1 ⟨rfl, rp, f1⟩
     obtain ⟨b1, hr⟩ := h.pair rp f1 (fun k hk => Or.inl hk) (still m (fun W hW => rmark_none B rb r g W hW (by omega) (by omega) em' e'))
     exact ⟨3, rfl, b1, hr⟩
   · by_cases hf : s.ms.length = 12
     · refine (mark_full B b s g j w h.rep hf hl12.1 em e).mono ?_
       rintro e w1 ⟨rfl, rp, f1⟩
       obtain ⟨b1, hr⟩ := h.pair rp f1 (fun k hk => Or.inl hk) (still m (fun W hW => rmark_full B rb r g j W hW (by omega) (by omega) em' e'))
       exact ⟨5, rfl, b1, hr⟩
     · have hno : ∀ a ∈ s.ms, a.1 ≠ x.guid := fun a ha e => by
         rw [hxg] at e
         obtain ⟨j, hj, e2, _⟩ := fi_some (p := fun y : Int × Int => y.1 == g) s.ms 0 ⟨a, ha, by simpa using e⟩
         rw [em] at e2
         omega
       have hcm := m.cm
       obtain ⟨C, cc⟩ := m.cc
       have hxc : 0 ≤ x.came ∧ x.came ≤ 1000000000000 := by
        have h8 := cc.rng x.guid (mem_gls.2 (Or.inl ⟨x, hxm, rfl⟩))
        rw [cc.ps x hxm]
        omega
       refine (mark_new B b s g j x w h.rep hl12.1 (by omega) e hx em (fun a ha => by have h8 := cc.rng a.1 (mem_gls.2 (Or.inr ⟨a, ha, rfl⟩)); rw [cc.pm a ha]; omega) hxc (by have := m.lg; omega)).mono ?_
       rintro e w1 ⟨rfl, l, mv, lv, hp, hs, rp, f1, o1, o2⟩
       rw [← hxg] at hp
       obtain ⟨b1, hr⟩ := h.pair rp f1 (foot_up rfl rfl (fun k hk => Or.inl hk) o1 o2) (f := 43) (args := #[.pointer (some ⟨rb, 0, none⟩), .int .i64 g]) (v := fC 0) (q := q) (fun W hW => by
        have fin : ∀ (e : Ending) (w2 : World), (e = .returned (.int .i64 0) ∧ ∃ mv, RRep B w2 rb (r.setM (insM (g, y.came) r.ms) mv) ∧ Fr (rfoot rb r) W w2 ∧ (∀ k, mv.ownBlock = some k → W.heap.size ≤ k)) → (e = .returned (fC 0) ∧ ∃ r', RRep B w2 rb r' ∧ Fr (rfoot rb r) W w2 ∧ (∀ k ∈ rfoot rb r', k ∈ rfoot rb r ∨ W.heap.size ≤ k) ∧ Sim ((s.marked l mv).noted 77 (n4 g).ba lv) r' (q + 1) ∧ LStep s.log r ((s.marked l mv).noted 77 (n4 g).ba lv).log r') := by
         rintro e w2 ⟨rfl, mv', rr, f2, o3⟩
         rw [← hxg] at rr
         exact ⟨rfl, _, rr, f2, rfoot_up (fun k hk => Or.inl hk) (fun k hk => Or.inr (o3 k hk)), m.marked hx hy hno (by omega) hp hs (n4_size g), by rw [hxg]; exact LStep.by (r_mark g (m.g32 hxm hxg) j y mv' hy hyg em' e' (by omega))⟩
        by_cases hn : r.mv = .slice none 0 0
        · have hms : r.ms = [] := by
            have ho := hW.ms
            rw [hn] at ho
            rcases ho.2 with ⟨_, h0⟩ | ⟨g, c, cur, h0, _⟩
            · exact List.length_eq_zero_iff.1 h0
            · simp at h0
          exact (rmark_nil B rb r g j y W hW (by omega) em' e' hy hms hn).mono fun e w2 hp => fin e w2 hp
        · by_cases ha : ahead y.came r.ms < r.ms.length
          · exact (rmark_mid B rb r g j y W hW (by omega) (by omega) em' e' hy ha).mono fun e w2 hp => fin e w2 hp
          · exact (rmark_last B rb r g j y W hW (by omega) (by omega) em' e' hy (ahead_all _ _ (by omega)) hn).mono fun e w2 hp => fin e w2 hp)
       exact ⟨0, rfl, b1, hr⟩
 · refine (mark_was B b s g i w h.rep hl12.2 em).mono ?_
   rintro e w1 ⟨rfl, rp, f1⟩
   obtain ⟨b1, hr⟩ := h.pair rp f1 (fun k hk => Or.inl hk) (still m (fun W hW => rmark_was B rb r g i W hW (by omega) (by omega) (by rw [m.fim]; exact em)))
   exact ⟨0, rfl, b1, hr⟩
theorem p_unmark (h : SD O B w db b rb s r) (m : Sim s r q) (g : Int) (hq : q ≤ 2000000) :
  Calls Tryz.prog 44 #[.pointer (some ⟨b, 0, none⟩), .int .i64 g] w (PC fC O B w db b rb s r q 45 #[.pointer (some ⟨rb, 0, none⟩), .int .i64 g]) := by
 have hl12 := m.len
 have e3 := m.mlen
 rcases fi_cases (fun y : Int × Int => y.1 == g) s.ms with em | ⟨i, hi, em, _⟩
 · refine (unmark_none B b s g w h.rep hl12.2 em).mono ?_
   rintro e w1 ⟨rfl, rp, f1⟩
   obtain ⟨b1, hr⟩ := h.pair rp f1 (fun k hk => Or.inl hk) (still m (fun W hW => runmark_none B rb r g W hW (by omega) (by rw [m.fim]; exact em)))
   exact ⟨3, rfl, b1, hr⟩
 · refine (unmark_ok B b s g i w h.rep hl12.2 em hi (by have := m.lg; omega)).mono ?_
   rintro e w1 ⟨rfl, mv, lv, rp, f1, o1, o2⟩
   obtain ⟨b1, hr⟩ := h.pair rp f1 (foot_up rfl rfl (fun k hk => Or.inl hk) (fun k hk => Or.inl (by rw [← o1]; exact hk)) o2) (f := 45) (args := #[.pointer (some ⟨rb, 0, none⟩), .int .i64 g]) (v := fC 0) (q := q) (fun W hW => by
    refine (runmark_ok B rb r g i W hW (by omega) (by rw [m.fim]; exact em) (by omega)).mono ?_
    rintro e w2 ⟨rfl, mv', rr, f2, o3⟩
    exact ⟨rfl, _, rr, f2, rfoot_up (fun k hk => Or.inl hk) (fun k hk => Or.inr (o3 k hk)), m.unmark i (n4_size g), LStep.by (r_unmark g (g32m m em) i mv' (by omega) (by rw [m.fim]; exact em))⟩)
   exact ⟨0, rfl, b1, hr⟩
end
end Go.Proofs.YthdhegmlknpllaaGreat
