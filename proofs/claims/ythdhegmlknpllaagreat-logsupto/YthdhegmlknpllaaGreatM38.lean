import Derived.Test.YthdhegmlknpllaaGreatM37
namespace Go.Proofs.YthdhegmlknpllaaGreat
open Go.RowKit Go.Maps Go.MuLone
section
variable {B : Nat} {w w' w1 w2 W : World} {b rb : Nat} {s s' : Sto} {r r' : RSto} {q : Nat} {e : List UInt8}
def UcD (zs : List Int) (r r' : RSto) (e : List UInt8) : Prop :=
 ∀ (B b : Nat) (s : Sto) (q : Nat) (w : World) (a : Option Addr) (c : Nat), Rep B w b 0 s → Sim s r q → q ≤ 2000000 → RowG w a zs c → (∀ k off, a = some ⟨k, off, none⟩ → 0 < zs.length → k ∉ foot b s) → Calls Tryz.prog 67 #[.pointer (some ⟨b, 0, none⟩), .slice a zs.length c] w fun en w' => V1 en ∧ After B b s q r' e w w'
theorem u_destroy_none (zs : List Int) (hz : zs.length ≤ 2000000) (hb : ∀ i, i < zs.length → In64 (tm zs i)) (hn : ∃ k, k < zs.length ∧ fineAt (r.sh.map RSh.sn) zs k = false) : UcD zs r r [] := fun B b s q w a c h m hq hrow hnf => by
 refine (destroy_any B b s a zs c w h m.len.1 m.bl.2.2 m.nd hrow hz hb hnf (by have := m.lg; omega)).mono ?_
 obtain ⟨k, hk, hbad⟩ := hn
 rw [m.fine] at hbad
 rintro e w1 ⟨f1, ⟨rfl, _, rp⟩ | ⟨_, hall, _⟩ | ⟨_, hall, _⟩⟩
 · exact ⟨⟨_, rfl⟩, After.same rp m f1⟩
 · rw [hall k hk] at hbad
   cases hbad
 · rw [hall k hk] at hbad
   cases hbad
theorem u_destroy_held (zs : List Int) (hz : zs.length ≤ 2000000) (hb : ∀ i, i < zs.length → In64 (tm zs i)) (hfi : ∀ k, k < zs.length → fineAt (r.sh.map RSh.sn) zs k = true) (hn : ∃ k, k < zs.length ∧ heldAt (r.sh.map RSh.sn) zs k = true) : UcD zs r r [] := fun B b s q w a c h m hq hrow hnf => by
 refine (destroy_any B b s a zs c w h m.len.1 m.bl.2.2 m.nd hrow hz hb hnf (by have := m.lg; omega)).mono ?_
 obtain ⟨k, hk, hbad⟩ := hn
 rw [m.held] at hbad
 rintro e w1 ⟨f1, ⟨_, ⟨j, hj, h1⟩, _⟩ | ⟨rfl, _, _, rp⟩ | ⟨_, _, hall, _⟩⟩
 · have h2 := hfi j hj
   rw [m.fine, h1] at h2
   cases h2
 · exact ⟨⟨_, rfl⟩, After.same rp m f1⟩
 · rw [hall k hk] at hbad
   cases hbad
theorem u_destroy_ok (zs : List Int) (sv : Value) (hz : zs.length ≤ 2000000) (hb : ∀ i, i < zs.length → In64 (tm zs i)) (hfi : ∀ k, k < zs.length → fineAt (r.sh.map RSh.sn) zs k = true) (hno : ∀ k, k < zs.length → heldAt (r.sh.map RSh.sn) zs k = false) : UcD zs r (r.setS (rleft r.sh zs) sv) (if zs = [] then [] else entry 68 (gtext zs)) := fun B b s q w a c h m hq hrow hnf => by
 refine (destroy_any B b s a zs c w h m.len.1 m.bl.2.2 m.nd hrow hz hb hnf (by have := m.lg; omega)).mono ?_
 rintro e w1 ⟨f1, ⟨_, ⟨j, hj, h1⟩, _⟩ | ⟨_, _, ⟨j, hj, h1⟩, _⟩ | ⟨rfl, hf2, _, s', d⟩⟩
 · have h2 := hfi j hj
   rw [m.fine, h1] at h2
   cases h2
 · have h2 := hno j hj
   rw [m.held, h1] at h2
   cases h2
 · exact ⟨⟨_, rfl⟩, s', d.rep, m.destroy d (by have := fine_len hf2; have := m.len.1; omega) sv, d.log, f1⟩
def PrY (tx : ByteArray) (f t m : Int) (nb : Nat) (l : List (Int × B4)) : Prop := ∀ W, Calls Tryz.prog 79 #[.string tx] W fun e w' => ∃ v, e = .returned (.tuple #[.agg #[.int .i64 f, .int .i64 t, .int .i64 m, .int .i64 (nb : Int), v], .bool true]) ∧ w'.ownsRow W.heap.size 137 5 v l.length (blC l) ∧ Fr [] W w'
theorem u_recv_form (tx : ByteArray) (hP : ∀ W, Calls Tryz.prog 79 #[.string tx] W fun e w' => e = .returned (.tuple #[zeroS, .bool false]) ∧ Fr [] W w') : Uc V2 52 (fun b => #[.pointer (some ⟨b, 0, none⟩), .string tx]) r r [] := fun B b s q w h m _ => by
 refine (receive_form B b s tx w h hP).mono ?_
 rintro e w1 ⟨rfl, rp, f1⟩
 exact ⟨⟨_, _, rfl⟩, After.same rp m f1⟩
theorem hs_spots {t : Int} (h : Hs s t = false) : fi (fun y : Sn => y.guid == t) 0 s.ss = -1 ∧ fi (fun y : Int × Int => y.1 == t) 0 s.ms = -1 ∧ t ∉ gls s := by
 have hsp := h
 unfold Hs at hsp
 rw [Bool.or_eq_false_iff, List.any_eq_false, List.any_eq_false] at hsp
 refine ⟨fi_none _ _ (fun x hx => by simpa using hsp.1 x hx), fi_none _ _ (fun x hx => by simpa using hsp.2 x hx), fun hm => ?_⟩
 have h9 := (hs_gls (s := s) t).2 hm
 rw [h] at h9
 cases h9
theorem u_recv_err (tx : ByteArray) {f t mm : Int} {nb : Nat} {l : List (Int × B4)} (hP : PrY tx f t mm nb l) (hb : ¬ (nb = r.blocks ∧ RHs r t = false ∧ f = rnewest r ∧ r.sh.length < 12)) : Uc V2 52 (fun b => #[.pointer (some ⟨b, 0, none⟩), .string tx]) r r [] := fun B b s q w h m _ => by
 have herr : ∀ (en : Int), (en == 0) = false → (∀ W v, Rep B W b 1 s → (∃ a n c, v = .slice a n c) → Calls Tryz.prog 80 #[.pointer (some ⟨b, 0, none⟩), .agg #[.int .i64 f, .int .i64 t, .int .i64 mm, .int .i64 (nb : Int), v]] W fun e w' => e = .returned (.int .i64 en) ∧ Fr [] W w') → Calls Tryz.prog 52 #[.pointer (some ⟨b, 0, none⟩), .string tx] w fun en w' => V2 en ∧ After B b s q r [] w w' := fun en hen hA => by
  refine (receive_err B b s tx w h f t mm nb l en hen hP hA).mono ?_
  rintro e9 w1 ⟨rfl, rp, f1⟩
  exact ⟨⟨_, _, rfl⟩, After.same rp m f1⟩
 have hl12 := m.len
 have hbl := m.bl
 by_cases hnb : (nb : Int) = (s.vol.length : Int)
 · by_cases hth : Hs s t = true
   · refine herr 7 rfl (fun W v hW hv => ?_)
     rw [hnb]
     rcases fi_cases (fun y : Sn => y.guid == t) s.ss with e | ⟨j, hj, e, _⟩
     · rcases fi_cases (fun y : Int × Int => y.1 == t) s.ms with em | ⟨i, hi, em, _⟩
       · exfalso
         unfold Hs at hth
         rw [Bool.or_eq_true, List.any_eq_true, List.any_eq_true] at hth
         rcases hth with h1 | h1
         · obtain ⟨j, _, e9, _⟩ := fi_some (p := fun x : Sn => x.guid == t) s.ss 0 h1
           rw [e] at e9
           omega
         · obtain ⟨j, _, e9, _⟩ := fi_some (p := fun x : Int × Int => x.1 == t) s.ms 0 h1
           rw [em] at e9
           omega
       · exact accepts_dupm B b 1 s f t mm v W hW hl12.1 hl12.2 hv e i em
     · exact accepts_dup B b 1 s f t mm v j W hW hl12.1 hv e
   · have hth2 : Hs s t = false := by simpa using hth
     obtain ⟨f1, f2, hng⟩ := hs_spots hth2
     by_cases hla : f = lastG s.ss
     · by_cases h12 : s.ss.length = 12
       · refine herr 5 rfl (fun W v hW hv => ?_)
         rw [hnb]
         exact accepts_full B b 1 s f t mm v W hW hl12.1 hl12.2 hv f1 f2 hla h12
       · exact absurd ⟨by omega, by rw [m.hs]; exact hth2, by rw [m.newest]; exact hla, by have := m.glen; omega⟩ hb
     · refine herr 6 rfl (fun W v hW hv => ?_)
       rw [hnb]
       exact accepts_base B b 1 s f t mm v W hW hl12.1 hl12.2 hv f1 f2 hla
 · exact herr 6 rfl (fun W v hW hv => accepts_blocks B b 1 s f t mm v W hW hv nb hnb)
theorem recv_in (tx : ByteArray) {f t mm : Int} {nb : Nat} {l : List (Int × B4)} (ok : StrOk tx f t mm nb l) (hP : PrY tx f t mm nb l) (hb : nb = r.blocks ∧ RHs r t = false ∧ f = rnewest r ∧ r.sh.length < 12) (hf : ∀ (B b : Nat) (s : Sto) (q : Nat) (w : World), Rep B w b 0 s → Sim s r q → q ≤ 2000000 → ∀ sv lv, Sim (s.recv f t mm l tx sv lv) r' (q + 1)) : Uc V2 52 (fun b => #[.pointer (some ⟨b, 0, none⟩), .string tx]) r r' (entry 84 tx) := fun B b s q w h m hq => by
 obtain ⟨m1, m2, m3, m4, m5, m6, m7⟩ := ok.may
 have hlen := ok.len
 have hsize := ok.size
 have hbl := m.bl
 have hl12 := m.len
 have hcm := m.cm
 have hcn := m.cn
 have hlg := m.lg
 have hnb : (nb : Int) = (s.vol.length : Int) := by omega
 have hnbn : nb = s.vol.length := by omega
 obtain ⟨f1, f2, hng⟩ := hs_spots (s := s) (t := t) (by rw [← m.hs]; exact hb.2.1)
 have hla : f = lastG s.ss := by rw [← m.newest]; exact hb.2.2.1
 have hri : ∀ k (hk : k < l.length), 0 ≤ l[k].1 ∧ l[k].1 < s.vol.length := fun k hk => by
  have h1 := m7 k hk
  have h2 := rises_len m7 k (by omega)
  omega
 have hP' : ∀ W, Calls Tryz.prog 79 #[.string tx] W fun e w' => ∃ v, e = .returned (.tuple #[.agg #[.int .i64 f, .int .i64 t, .int .i64 mm, .int .i64 (s.vol.length : Int), v], .bool true]) ∧ w'.ownsRow W.heap.size 137 5 v l.length (blC l) ∧ Fr [] W w' := by rw [← hnb]; exact hP
 refine (receive_ok B b s tx w h f t mm l hP' (by have := m.glen; omega) hl12.2 f1 f2 hla hri hlen ⟨by omega, by omega⟩ ⟨by omega, by omega⟩ (by omega) hbl.2.2 (by unfold maxLen; omega) (by omega) (by omega)).mono ?_
 rintro e9 w1 ⟨rfl, sv, lv, rp, f1', o1, o2⟩
 exact ⟨⟨_, _, rfl⟩, _, rp, hf B b s q w h m hq sv lv, rfl, f1'⟩
theorem u_recv_ok0 (hr : RWf r) (tx : ByteArray) (sv' : Value) {f t mm : Int} {nb : Nat} {l : List (Int × B4)} (ok : StrOk tx f t mm nb l) (hP : PrY tx f t mm nb l) (hb : nb = r.blocks ∧ RHs r t = false ∧ f = rnewest r ∧ r.sh.length < 12) (h0 : r.sh.length = 0) : Uc V2 52 (fun b => #[.pointer (some ⟨b, 0, none⟩), .string tx]) r { r with now := r.now + 2, dat := fD r.dat l, born := fB (r.now + 1) r.born l, sh := r.sh ++ [⟨t, mm, 0, r.now + 2, fD r.dat l, fB (r.now + 1) r.born l⟩], sv := sv' } (entry 84 tx) := by
 have hf0 : f = 0 := by
  rw [hb.2.2.1]
  have : r.sh = [] := List.length_eq_zero_iff.1 h0
  unfold rnewest
  rw [this]
  rfl
 subst hf0
 refine recv_in tx ok hP hb (fun B b s q w h m hq sv lv => ?_)
 obtain ⟨m1, m2, m3, m4, m5, m6, m7⟩ := ok.may
 have hbl := m.bl
 have hlen := ok.len
 have hsize := ok.size
 have hnb : (nb : Int) = (s.vol.length : Int) := by omega
 obtain ⟨f1, f2, hng⟩ := hs_spots (s := s) (t := t) (by rw [← m.hs]; exact hb.2.1)
 exact m.recv0 hr.1 hr.2.1 (by have := m6 rfl; omega) (by rw [← hnb]; exact m7) hng m2 ⟨ok.m0, m4⟩ (by have := m.glen; omega) (by omega)
theorem u_recv_okn (hr : RWf r) (tx : ByteArray) (sv' : Value) {f t mm : Int} {nb : Nat} {l : List (Int × B4)} (ok : StrOk tx f t mm nb l) (hP : PrY tx f t mm nb l) (hb : nb = r.blocks ∧ RHs r t = false ∧ f = rnewest r ∧ r.sh.length < 12) {y : RSh} (hy : r.sh[r.sh.length - 1]? = some y) : Uc V2 52 (fun b => #[.pointer (some ⟨b, 0, none⟩), .string tx]) r { r with now := r.now + 2, dat := fD y.dat l, born := fB (r.now + 1) y.born l, sh := r.sh ++ [⟨t, mm, 0, r.now + 2, fD y.dat l, fB (r.now + 1) y.born l⟩], sv := sv' } (entry 84 tx) := by
 refine recv_in tx ok hP hb (fun B b s q w h m hq sv lv => ?_)
 obtain ⟨m1, m2, m3, m4, m5, m6, m7⟩ := ok.may
 have hbl := m.bl
 have hlen := ok.len
 have hsize := ok.size
 obtain ⟨f1, f2, hng⟩ := hs_spots (s := s) (t := t) (by rw [← m.hs]; exact hb.2.1)
 have hl := (List.getElem?_eq_some_iff.1 hy).1
 have hgl := m.glen
 exact m.recvn hr.2.2 (by rw [← m.newest]; exact hb.2.2.1) hy (by omega) hng m2 ⟨ok.m0, m4⟩ (by omega) (by omega)
def V0 (e : Ending) : Prop := e = .returned (.tuple #[])
def RedoT (t0 : ByteArray) (r r' : RSto) (e : List UInt8) : Prop := Uc V0 57 (fun b => #[.pointer (some ⟨b, 0, none⟩), .string t0]) r r' e
theorem After.from (h : After B b s q r' e W w') (hf : Fr [] w W) : After B b s q r' e w w' := by
 obtain ⟨s', rp, m, hl, f⟩ := h
 exact ⟨s', rp, m, hl, (hf.mono (by simp)).trans f (fun k hk => Or.inl hk)⟩
theorem t_W {t0 : ByteArray} (hT : t0.size ≤ 300) (hk : eK t0 = 87) (u : Uc V1 25 (fun b => #[.pointer (some ⟨b, 0, none⟩), .int .i64 (eB t0 : Nat), .string (eT3 t0)]) r r' e) : RedoT t0 r r' e := fun B b s q w h m hq =>
 redo_W b t0 hT hk w _ (fun W hW => (u B b s q W (h.kept0 hW) m hq).mono fun _ _ hp => ⟨hp.1, hp.2.from hW⟩)
theorem t_S {t0 : ByteArray} (hT : t0.size ≤ 300) (hk : eK t0 = 83) (u : Uc V2 29 (fun b => #[.pointer (some ⟨b, 0, none⟩), .int .i64 (eN t0 : Nat)]) r r' e) : RedoT t0 r r' e := fun B b s q w h m hq =>
 redo_S b t0 hT hk w _ (fun W hW => (u B b s q W (h.kept0 hW) m hq).mono fun _ _ hp => ⟨hp.1, hp.2.from hW⟩)
theorem t_H {t0 : ByteArray} (hT : t0.size ≤ 300) (hk : eK t0 = 72) (u : Uc V1 37 (fun b => #[.pointer (some ⟨b, 0, none⟩), .int .i64 (eN t0 : Nat)]) r r' e) : RedoT t0 r r' e := fun B b s q w h m hq =>
 redo_H b t0 hT hk w _ (fun W hW => (u B b s q W (h.kept0 hW) m hq).mono fun _ _ hp => ⟨hp.1, hp.2.from hW⟩)
theorem t_R {t0 : ByteArray} (hT : t0.size ≤ 300) (hk : eK t0 = 82) (u : Uc V1 39 (fun b => #[.pointer (some ⟨b, 0, none⟩), .int .i64 (eN t0 : Nat)]) r r' e) : RedoT t0 r r' e := fun B b s q w h m hq =>
 redo_R b t0 hT hk w _ (fun W hW => (u B b s q W (h.kept0 hW) m hq).mono fun _ _ hp => ⟨hp.1, hp.2.from hW⟩)
theorem t_M {t0 : ByteArray} (hT : t0.size ≤ 300) (hk : eK t0 = 77) (u : Uc V1 42 (fun b => #[.pointer (some ⟨b, 0, none⟩), .int .i64 (eN t0 : Nat)]) r r' e) : RedoT t0 r r' e := fun B b s q w h m hq =>
 redo_M b t0 hT hk w _ (fun W hW => (u B b s q W (h.kept0 hW) m hq).mono fun _ _ hp => ⟨hp.1, hp.2.from hW⟩)
theorem t_U {t0 : ByteArray} (hT : t0.size ≤ 300) (hk : eK t0 = 85) (u : Uc V1 44 (fun b => #[.pointer (some ⟨b, 0, none⟩), .int .i64 (eN t0 : Nat)]) r r' e) : RedoT t0 r r' e := fun B b s q w h m hq =>
 redo_U b t0 hT hk w _ (fun W hW => (u B b s q W (h.kept0 hW) m hq).mono fun _ _ hp => ⟨hp.1, hp.2.from hW⟩)
theorem t_T {t0 : ByteArray} (hT : t0.size ≤ 300) (hk : eK t0 = 84) (u : Uc V2 52 (fun b => #[.pointer (some ⟨b, 0, none⟩), .string (eT2 t0)]) r r' e) : RedoT t0 r r' e := fun B b s q w h m hq =>
 redo_T b t0 hT hk w _ (fun W hW => (u B b s q W (h.kept0 hW) m hq).mono fun _ _ hp => ⟨hp.1, hp.2.from hW⟩)
theorem t_O {t0 : ByteArray} (hT : t0.size ≤ 300) (hk : ∀ k ∈ ([87, 83, 72, 82, 68, 77, 85, 84] : List Nat), eK t0 ≠ k) : RedoT t0 r r [] := fun B b s q w h m hq =>
 redo_O b t0 hT hk w _ (fun W hW => After.same (h.kept0 hW) m (hW.mono (by simp)))
theorem own_row {a : Option Addr} {c N : Nat} {zs : List Int} (h : W.ownsRow N 3 1 (.slice a zs.length c) zs.length (i1C zs)) : RowG W a zs c ∧ ∀ k off, a = some ⟨k, off, none⟩ → 0 < zs.length → N ≤ k := by
 have hz := own_addr0 h
 refine ⟨⟨?_, fun h0 => ?_⟩, fun k off e h0 => ?_⟩
 · rcases hz with ⟨_, h1, _⟩ | ⟨g, _, h1, _⟩ <;> omega
 · rcases hz with ⟨_, h1, _⟩ | ⟨g, e, h1, h2⟩
   · omega
   · refine ⟨g, 0, e, fun i hi => ?_⟩
     rw [Nat.zero_add, h2 i (by omega)]
     simp [i1C, tm, hi]
 · refine (h.lt k ?_).1
   rcases hz with ⟨_, h1, _⟩ | ⟨g, e', h1, h2⟩
   · omega
   · rw [e'] at e ⊢
     simp at e
     simp [Value.ownBlock, e.1]
theorem t_D {t0 : ByteArray} (hT : t0.size ≤ 300) (hk : eK t0 = 68) {zs : List Int} (hz : ∀ zs', RG (eT2 t0) zs' → zs' = zs) (u : UcD zs r r' e) : RedoT t0 r r' e := fun B b s q w h m hq =>
 redo_D b t0 hT hk w _ (fun W hW a c zs' ho hg => by
  have e1 := hz zs' hg
  subst e1
  obtain ⟨h1, h2⟩ := own_row ho
  exact (u B b s q W a c (h.kept0 hW) m hq h1 (fun k off e h0 hm => by have h3 := h2 k off e h0; have h4 := (h.lt k hm).2; omega)).mono fun _ _ hp => ⟨hp.1, hp.2.from hW⟩)
end
section
variable {B : Nat} {w w' w1 w2 W : World} {b rb : Nat} {s s' : Sto} {r r' : RSto} {q : Nat} {e : List UInt8}
theorem rdL_app (a b : List UInt8) (n : Nat) (h : a.length = n) : rdL (ofL (a ++ b)) n = ofL b := by
 have h1 := congrArg Prod.fst (rdN_app a b false n h)
 unfold rdN at h1
 exact h1
theorem valOne (a : UInt8) : valN [a] = a.toNat := by simp [valN]
theorem eT1_of (c : UInt8) (t : ByteArray) : eT1 (ofL (entry c t)) = ofL ([c] ++ t.data.toList) := by
 unfold eT1 entry
 exact rdL_app [_] _ 1 rfl
theorem eK_of (c : UInt8) (t : ByteArray) : eK (ofL (entry c t)) = c.toNat := by
 unfold eK
 rw [eT1_of, rdT_app [c] _ 1 rfl, ofL_list, valOne]
theorem eT2_of (c : UInt8) (t : ByteArray) : eT2 (ofL (entry c t)) = t := by
 unfold eT2
 rw [eT1_of, rdL_app [c] _ 1 rfl, ofL_back]
theorem eN_of (c : UInt8) (z : Int) (hz : 0 ≤ z ∧ z < 4294967296) : ((eN (ofL (entry c (n4 z).ba)) : Nat) : Int) = z := by
 unfold eN
 rw [eT2_of, ba_ofL]
 have h1 := rdT_app (n4 z).list' [] 4 rfl
 rw [List.append_nil] at h1
 rw [h1, ofL_list]
 exact val4 z hz
theorem wt_eq (k : Nat) (x : B4) : wtext k x = ofL ([byt (k : Int)] ++ x.list') := by
 refine ofL_ext ?_
 simp [wtext, ofL, B4.list']
theorem eB_of (k : Nat) (x : B4) (hk : k < 256) : eB (ofL (entry 87 (wtext k x))) = k := by
 unfold eB
 rw [eT2_of, wt_eq, rdT_app [_] _ 1 rfl, ofL_list, valOne]
 have := byt_eq (k : Int)
 omega
theorem eT3_of (k : Nat) (x : B4) : eT3 (ofL (entry 87 (wtext k x))) = x.ba := by
 unfold eT3
 rw [eT2_of, wt_eq, rdL_app [_] _ 1 rfl]
 rfl
theorem ent_size (c : UInt8) (t : ByteArray) : (ofL (entry c t)).size = t.size + 2 := by rw [ofL_size, entry_len]
theorem glist_go : ∀ (zs : List Int) (a : ByteArray), (zs.foldl (fun a z => a ++ (n4 z).ba) a).data.toList = a.data.toList ++ zs.flatMap fun z => (n4 z).list'
 | [], a => by simp
 | z :: r, a => by
  rw [List.foldl_cons, glist_go r, List.flatMap_cons]
  simp [B4.ba, B4.list']
theorem glist (zs : List Int) : gtext zs = ofL (zs.flatMap fun z => (n4 z).list') := by
 refine ofL_ext ?_
 unfold gtext
 rw [glist_go, ofL_list]
 rfl
theorem RG.of : ∀ (zs : List Int), (∀ z ∈ zs, 0 ≤ z ∧ z < 4294967296) → ∀ zs', RG (ofL (zs.flatMap fun z => (n4 z).list')) zs' → zs' = zs
 | [], _, [], _ => rfl
 | [], _, _ :: _, h => absurd h.1 (by decide)
 | z :: zs, _, [], h => by
  have h1 : (ofL ((z :: zs).flatMap fun z => (n4 z).list')).size = 0 := h
  rw [ofL_size] at h1
  simp [B4.list'] at h1
 | z :: zs, hz, a :: zs', h => by
  rw [List.flatMap_cons] at h
  obtain ⟨_, e, hr⟩ := h
  rw [rdL_app (n4 z).list' _ 4 rfl] at hr
  rw [rdT_app (n4 z).list' _ 4 rfl, ofL_list, val4 z (hz z (by simp))] at e
  rw [e, RG.of zs (fun y hy => hz y (by simp [hy])) _ hr]
def EntOk (e : List UInt8) : Prop := ∃ a tl, e = a :: tl ∧ a.toNat = tl.length ∧ tl.length ≤ 255
theorem EntOk.of (c : UInt8) (t : ByteArray) (h : t.size ≤ 200) : EntOk (entry c t) := ⟨_, _, rfl, by
 rw [UInt8.toNat_ofNat']
 simp
 omega, by simp; omega⟩
theorem RG.det : ∀ {t : ByteArray} {zs zs' : List Int}, RG t zs → RG t zs' → zs = zs'
 | _, [], [], _, _ => rfl
 | t, [], _ :: _, h, h' => by
  have h1 : t.size = 0 := h
  have h2 := h'.1
  omega
 | t, _ :: _, [], h, h' => by
  have h1 : t.size = 0 := h'
  have h2 := h.1
  omega
 | _, _ :: _, _ :: _, ⟨_, e, hr⟩, ⟨_, e', hr'⟩ => by rw [e, e', RG.det hr hr']
theorem RG.ex : ∀ (n : Nat) (t : ByteArray), t.size ≤ n → ∃ zs, RG t zs
 | 0, t, h => ⟨[], RG.nil (by omega)⟩
 | n + 1, t, h => by
  by_cases h0 : 0 < t.size
  · obtain ⟨zs, hz⟩ := RG.ex n (rdL t 4) (by have := rdL_lt t h0; omega)
    exact ⟨_, RG.cons h0 hz⟩
  · exact ⟨[], RG.nil (by omega)⟩
structure Redo (e : List UInt8) (r r' : RSto) : Prop where
 ok : EntOk e
 redo : RedoT (ofL e) r r' e
theorem r_write (hr : RWf r) (hb : r.blocks ≤ 16) (n : Nat) (x : B4) (hn : n < r.blocks) : Redo (entry 87 (wtext n x)) r (r.write n x.ba) := by
 have hs : (wtext n x).size = 5 := rfl
 refine ⟨EntOk.of _ _ (by omega), t_W (by rw [ent_size]; omega) (eK_of _ _) ?_⟩
 rw [eB_of n x (by omega), eT3_of]
 exact u_write_ok hr n x hn
theorem r_snap (t n : Int) (sv' : Value) (ht : 0 ≤ t ∧ t ≤ 1073741824) (hrn : RNxt r n) (hf : ¬ (r.sh.length = 12 ∨ 999999 < n)) : Redo (entry 83 (n4 t).ba) r (r.snap n t sv') := by
 have hs : (n4 t).ba.size = 4 := rfl
 refine ⟨EntOk.of _ _ (by omega), t_S (by rw [ent_size]; omega) (eK_of _ _) ?_⟩
 rw [eN_of _ t (by omega)]
 exact u_snap_ok t n sv' ht hrn hf
theorem r_hold (g : Int) (hg : 0 ≤ g ∧ g < 4294967296) (j : Nat) (y : RSh) (hy : r.sh[j]? = some y) (e' : fi (fun y : RSh => y.guid == g) 0 r.sh = (j : Int)) (h9 : y.holds < 9) : Redo (entry 72 (n4 g).ba) r (r.setH j y (y.holds + 1)) := by
 have hs : (n4 g).ba.size = 4 := rfl
 refine ⟨EntOk.of _ _ (by omega), t_H (by rw [ent_size]; omega) (eK_of _ _) ?_⟩
 rw [eN_of _ g hg]
 exact u_hold_ok g j y hy e' h9
theorem r_release (g : Int) (hg : 0 ≤ g ∧ g < 4294967296) (j : Nat) (y : RSh) (hy : r.sh[j]? = some y) (e' : fi (fun y : RSh => y.guid == g) 0 r.sh = (j : Int)) (h0 : ¬ y.holds = 0) : Redo (entry 82 (n4 g).ba) r (r.setH j y (y.holds - 1)) := by
 have hs : (n4 g).ba.size = 4 := rfl
 refine ⟨EntOk.of _ _ (by omega), t_R (by rw [ent_size]; omega) (eK_of _ _) ?_⟩
 rw [eN_of _ g hg]
 exact u_release_ok g j y hy e' h0
theorem r_mark (g : Int) (hg : 0 ≤ g ∧ g < 4294967296) (j : Nat) (y : RSh) (mv' : Value) (hy : r.sh[j]? = some y) (hyg : y.guid = g) (em : fi (fun y : Int × Int => y.1 == g) 0 r.ms = -1) (e' : fi (fun y : RSh => y.guid == g) 0 r.sh = (j : Int)) (hf : ¬ r.ms.length = 12) : Redo (entry 77 (n4 g).ba) r (r.setM (insM (g, y.came) r.ms) mv') := by
 have hs : (n4 g).ba.size = 4 := rfl
 refine ⟨EntOk.of _ _ (by omega), t_M (by rw [ent_size]; omega) (eK_of _ _) ?_⟩
 rw [eN_of _ g hg]
 exact u_mark_ok g j y mv' hy hyg em e' hf
theorem r_unmark (g : Int) (hg : 0 ≤ g ∧ g < 4294967296) (i : Nat) (mv' : Value) (hi : i < r.ms.length) (em : fi (fun y : Int × Int => y.1 == g) 0 r.ms = (i : Int)) : Redo (entry 85 (n4 g).ba) r (r.setM (r.ms.eraseIdx i) mv') := by
 have hs : (n4 g).ba.size = 4 := rfl
 refine ⟨EntOk.of _ _ (by omega), t_U (by rw [ent_size]; omega) (eK_of _ _) ?_⟩
 rw [eN_of _ g hg]
 exact u_unmark_ok g i mv' hi em
theorem r_destroy (zs : List Int) (sv : Value) (h0 : zs ≠ []) (hz : zs.length ≤ 12) (hg : ∀ z ∈ zs, 0 ≤ z ∧ z < 4294967296) (hfi : ∀ k, k < zs.length → fineAt (r.sh.map RSh.sn) zs k = true) (hno : ∀ k, k < zs.length → heldAt (r.sh.map RSh.sn) zs k = false) : Redo (entry 68 (gtext zs)) r (r.setS (rleft r.sh zs) sv) := by
 have hs := gtext_len zs
 refine ⟨EntOk.of _ _ (by omega), t_D (zs := zs) (by rw [ent_size]; omega) (eK_of _ _) (fun zs' h => ?_) ?_⟩
 · rw [eT2_of, glist] at h
   exact RG.of zs hg zs' h
 · have h1 := u_destroy_ok (r := r) zs sv (by omega) (fun i hi => ?_) hfi hno
   · rw [if_neg h0] at h1
     exact h1
   · rw [tm_get zs i hi]
     have := hg _ (List.getElem_mem hi)
     exact ⟨by omega, by omega⟩
theorem r_recv0 (hr : RWf r) (tx : ByteArray) (sv' : Value) {f t mm : Int} {nb : Nat} {l : List (Int × B4)} (ok : StrOk tx f t mm nb l) (hP : PrY tx f t mm nb l) (hb : nb = r.blocks ∧ RHs r t = false ∧ f = rnewest r ∧ r.sh.length < 12) (h0 : r.sh.length = 0) : Redo (entry 84 tx) r { r with now := r.now + 2, dat := fD r.dat l, born := fB (r.now + 1) r.born l, sh := r.sh ++ [⟨t, mm, 0, r.now + 2, fD r.dat l, fB (r.now + 1) r.born l⟩], sv := sv' } := by
 have h1 := ok.size
 have h2 := ok.len
 refine ⟨EntOk.of _ _ (by omega), t_T (by rw [ent_size]; omega) (eK_of _ _) ?_⟩
 rw [eT2_of]
 exact u_recv_ok0 hr tx sv' ok hP hb h0
theorem r_recvn (hr : RWf r) (tx : ByteArray) (sv' : Value) {f t mm : Int} {nb : Nat} {l : List (Int × B4)} (ok : StrOk tx f t mm nb l) (hP : PrY tx f t mm nb l) (hb : nb = r.blocks ∧ RHs r t = false ∧ f = rnewest r ∧ r.sh.length < 12) {y : RSh} (hy : r.sh[r.sh.length - 1]? = some y) : Redo (entry 84 tx) r { r with now := r.now + 2, dat := fD y.dat l, born := fB (r.now + 1) y.born l, sh := r.sh ++ [⟨t, mm, 0, r.now + 2, fD y.dat l, fB (r.now + 1) y.born l⟩], sv := sv' } := by
 have h1 := ok.size
 have h2 := ok.len
 refine ⟨EntOk.of _ _ (by omega), t_T (by rw [ent_size]; omega) (eK_of _ _) ?_⟩
 rw [eT2_of]
 exact u_recv_okn hr tx sv' ok hP hb hy
theorem wf_setH (hr : RWf r) {j : Nat} {y : RSh} (hy : r.sh[j]? = some y) (z : Int) : RWf (r.setH j y z) := ⟨hr.1, hr.2.1, fun x hx => by
 rcases List.mem_or_eq_of_mem_set (show x ∈ r.sh.set j (y.hold z) from hx) with h | rfl
 · exact hr.2.2 x h
 · exact hr.2.2 y (List.mem_of_getElem? hy)⟩
theorem fi_spot {r : RSto} (g : Int) : fi (fun y : RSh => y.guid == g) 0 r.sh = -1 ∨ ∃ (j : Nat) (y : RSh), r.sh[j]? = some y ∧ fi (fun y : RSh => y.guid == g) 0 r.sh = (j : Int) ∧ y.guid = g := by
 rcases fi_cases (fun y : RSh => y.guid == g) r.sh with e | ⟨j, hj, e, hg⟩
 · exact Or.inl e
 · exact Or.inr ⟨j, r.sh[j], List.getElem?_eq_getElem hj, e, by simpa using hg⟩
theorem redo_ex (hr : RWf r) (m : Sim s r q) (t0 : ByteArray) (hT : t0.size ≤ 300) : ∃ r' e, RedoT t0 r r' e ∧ RWf r' := by
 have hbl := m.bl
 by_cases k1 : eK t0 = 87
 · by_cases hb : (decide (0 ≤ ((eB t0 : Nat) : Int)) && decide (((eB t0 : Nat) : Int) < r.blocks)) = false ∨ (((eT3 t0).size : Int) != 4) = true
   · exact ⟨r, [], t_W hT k1 (u_write_bad _ _ hb), hr⟩
   · have hk : ((eB t0 : Nat) : Int) < r.blocks := by
       have : ¬ (decide (0 ≤ ((eB t0 : Nat) : Int)) && decide (((eB t0 : Nat) : Int) < r.blocks)) = false := fun e => hb (Or.inl e)
       simp at this
       omega
     have ht : (eT3 t0).size = 4 := by
      have : ¬ (((eT3 t0).size : Int) != 4) = true := fun e => hb (Or.inr e)
      simp at this
      omega
     obtain ⟨x, hx⟩ := four ht
     refine ⟨r.write (eB t0) x.ba, entry 87 (wtext (eB t0) x), t_W hT k1 (by rw [hx]; exact u_write_ok hr (eB t0) x (by omega)), ⟨?_, ?_, hr.2.2⟩⟩
     · simpa [RSto.write] using hr.1
     · simpa [RSto.write] using hr.2.1
 by_cases k2 : eK t0 = 83
 · by_cases ht : ((eN t0 : Nat) : Int) < 0 ∨ 1073741824 < ((eN t0 : Nat) : Int)
   · exact ⟨r, [], t_S hT k2 (u_snap_arg _ ht), hr⟩
   · obtain ⟨n, hn, hrn⟩ := m.next
     by_cases hf : r.sh.length = 12 ∨ 999999 < n
     · exact ⟨r, [], t_S hT k2 (u_snap_full _ n (by omega) hrn hf), hr⟩
     · refine ⟨_, _, t_S hT k2 (u_snap_ok _ n (.slice none 0 0) (by omega) hrn hf), ⟨hr.1, hr.2.1, fun x hx => ?_⟩⟩
       rcases List.mem_append.1 (show x ∈ r.sh ++ [_] from hx) with h | h
       · exact hr.2.2 x h
       · have e : x = _ := List.mem_singleton.1 h
         rw [e]
         exact ⟨hr.1, hr.2.1⟩
 by_cases k3 : eK t0 = 72
 · rcases fi_spot (r := r) ((eN t0 : Nat) : Int) with e' | ⟨j, y, hy, e', hyg⟩
   · exact ⟨r, [], t_H hT k3 (u_hold_none _ e'), hr⟩
   · by_cases h9 : 9 ≤ y.holds
     · exact ⟨r, [], t_H hT k3 (u_hold_full _ j y hy e' h9), hr⟩
     · exact ⟨_, _, t_H hT k3 (u_hold_ok _ j y hy e' (by omega)), wf_setH hr hy _⟩
 by_cases k4 : eK t0 = 82
 · rcases fi_spot (r := r) ((eN t0 : Nat) : Int) with e' | ⟨j, y, hy, e', hyg⟩
   · exact ⟨r, [], t_R hT k4 (u_release_none _ e'), hr⟩
   · by_cases h9 : y.holds = 0
     · exact ⟨r, [], t_R hT k4 (u_release_bad _ j y hy e' h9), hr⟩
     · exact ⟨_, _, t_R hT k4 (u_release_ok _ j y hy e' h9), wf_setH hr hy _⟩
 by_cases k5 : eK t0 = 68
 · obtain ⟨zs, hz⟩ := RG.ex _ (eT2 t0) (Nat.le_refl _)
   have hfit := hz.fit
   have hle := eT_le t0
   have h64 : ∀ i, i < zs.length → In64 (tm zs i) := fun i hi => by
    rw [tm_get zs i hi]
    have := hfit.1 _ (List.getElem_mem hi)
    exact ⟨by omega, by omega⟩
   have hdet : ∀ zs', RG (eT2 t0) zs' → zs' = zs := fun zs' h => h.det hz
   by_cases hn : ∃ k, k < zs.length ∧ fineAt (r.sh.map RSh.sn) zs k = false
   · exact ⟨r, [], t_D hT k5 hdet (u_destroy_none zs (by omega) h64 hn), hr⟩
   · have hfi : ∀ k, k < zs.length → fineAt (r.sh.map RSh.sn) zs k = true := fun k hk => by
       cases hc : fineAt (r.sh.map RSh.sn) zs k
       · exact absurd ⟨k, hk, hc⟩ hn
       · rfl
     by_cases hh : ∃ k, k < zs.length ∧ heldAt (r.sh.map RSh.sn) zs k = true
     · exact ⟨r, [], t_D hT k5 hdet (u_destroy_held zs (by omega) h64 hfi hh), hr⟩
     · refine ⟨_, _, t_D hT k5 hdet (u_destroy_ok zs (.slice none 0 0) (by omega) h64 hfi (fun k hk => ?_)), ⟨hr.1, hr.2.1, fun x hx => hr.2.2 x (List.mem_filter.1 (show x ∈ rleft r.sh zs from hx)).1⟩⟩
       cases hc : heldAt (r.sh.map RSh.sn) zs k
       · rfl
       · exact absurd ⟨k, hk, hc⟩ hh
 by_cases k6 : eK t0 = 77
 · rcases fi_cases (fun y : Int × Int => y.1 == ((eN t0 : Nat) : Int)) r.ms with em | ⟨i, hi, em, _⟩
   · rcases fi_spot (r := r) ((eN t0 : Nat) : Int) with e' | ⟨j, y, hy, e', hyg⟩
     · exact ⟨r, [], t_M hT k6 (u_mark_none _ em e'), hr⟩
     · by_cases hf : r.ms.length = 12
       · exact ⟨r, [], t_M hT k6 (u_mark_full _ j em e' hf), hr⟩
       · exact ⟨_, _, t_M hT k6 (u_mark_ok _ j y (.slice none 0 0) hy hyg em e' hf), ⟨hr.1, hr.2.1, hr.2.2⟩⟩
   · exact ⟨r, [], t_M hT k6 (u_mark_was _ i em), hr⟩
 by_cases k7 : eK t0 = 85
 · rcases fi_cases (fun y : Int × Int => y.1 == ((eN t0 : Nat) : Int)) r.ms with em | ⟨i, hi, em, _⟩
   · exact ⟨r, [], t_U hT k7 (u_unmark_none _ em), hr⟩
   · exact ⟨_, _, t_U hT k7 (u_unmark_ok _ i (.slice none 0 0) hi em), ⟨hr.1, hr.2.1, hr.2.2⟩⟩
 by_cases k8 : eK t0 = 84
 · have hle := eT_le t0
   rcases read_both (eT2 t0) (by omega) with ⟨f, t, mm, nb, l, ok, hP, hR⟩ | ⟨hP, hR⟩
   · by_cases hb : nb = r.blocks ∧ RHs r t = false ∧ f = rnewest r ∧ r.sh.length < 12
     · by_cases h0 : r.sh.length = 0
       · refine ⟨_, _, t_T hT k8 (u_recv_ok0 hr _ (.slice none 0 0) ok hP hb h0), ⟨(fD_len _ _).trans hr.1, (fB_len _ _ _).trans hr.2.1, fun x hx => ?_⟩⟩
         rcases List.mem_append.1 hx with h | h
         · exact hr.2.2 x h
         · have e : x = _ := List.mem_singleton.1 h
           rw [e]
           exact ⟨(fD_len _ _).trans hr.1, (fB_len _ _ _).trans hr.2.1⟩
       · have hy : r.sh[r.sh.length - 1]? = some (r.sh[r.sh.length - 1]'(by omega)) := List.getElem?_eq_getElem (by omega)
         have hyw := hr.2.2 _ (List.mem_of_getElem? hy)
         refine ⟨_, _, t_T hT k8 (u_recv_okn hr _ (.slice none 0 0) ok hP hb hy), ⟨(fD_len _ _).trans hyw.1, (fB_len _ _ _).trans hyw.2, fun x hx => ?_⟩⟩
         rcases List.mem_append.1 hx with h | h
         · exact hr.2.2 x h
         · have e : x = _ := List.mem_singleton.1 h
           rw [e]
           exact ⟨(fD_len _ _).trans hyw.1, (fB_len _ _ _).trans hyw.2⟩
     · exact ⟨r, [], t_T hT k8 (u_recv_err _ hP hb), hr⟩
   · exact ⟨r, [], t_T hT k8 (u_recv_form _ hP), hr⟩
 refine ⟨r, [], t_O hT (fun k hk => ?_), hr⟩
 simp at hk
 rcases hk with rfl | rfl | rfl | rfl | rfl | rfl | rfl | rfl <;> assumption
end
end Go.Proofs.YthdhegmlknpllaaGreat
