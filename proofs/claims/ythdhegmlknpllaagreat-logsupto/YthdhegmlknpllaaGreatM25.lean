import Derived.Test.YthdhegmlknpllaaGreatM19
import Derived.Laws.AppendOwnNone
import Derived.Test.YthdhegmlknpllaaGreatM24
import Derived.Test.YthdhegmlknpllaaGreatM21
import Derived.Test.YthdhegmlknpllaaGreatM22
namespace Go.Proofs.YthdhegmlknpllaaGreat
open Go.RowKit Go.Maps Go.MuLone
set_option maxRecDepth 100000 in
set_option maxHeartbeats 1600000 in
theorem rmark_nil (B b : Nat) (s : RSto) (g : Int) (j : Nat) (x : RSh) (w : World) (h : RRep B w b s) (hs : s.sh.length ≤ 12) (hf : fi (fun y : Int × Int => y.1 == g) 0 s.ms = -1) (hg : fi (fun y : RSh => y.guid == g) 0 s.sh = (j : Int)) (hx : s.sh[j]? = some x) (hms : s.ms = []) (hmn : s.mv = .slice none 0 0) :
  Calls Tryz.prog 43 #[.pointer (some ⟨b, 0, none⟩), .int .i64 g] w fun e w' => e = .returned (.int .i64 0) ∧ ∃ mv, RRep B w' b (s.setM (insM (g, x.came) s.ms) mv) ∧ Fr (rfoot b s) w w' ∧ (∀ k, mv.ownBlock = some k → w.heap.size ≤ k) := by
 obtain ⟨i0, i0h, hz0, hz1, hz2⟩ := info_parts info120
 have hj : j < s.sh.length := (List.getElem?_eq_some_iff.1 hx).1
 have HM := rmark_any B b s g w h (by rw [hms]; simp)
 have HS := rshot_any B b s g w h (by omega)
 rw [hf] at HM
 rw [hg] at HS
 obtain ⟨ao, cap, hsv⟩ := own_shape h.sh
 have ho := h.sh
 rw [hsv] at ho
 obtain ⟨sg, hsg, hcap, hcc⟩ := own_addr ho (by omega)
 subst hsg
 have c36 : w.cell? ⟨b, 36, none⟩ = some (.slice (some ⟨sg, 0, none⟩) s.sh.length cap) := by rw [← hsv]; exact h.cells.2.2.2.2.1
 obtain ⟨cm, hcm⟩ : ∃ cm, x.came = cm := ⟨_, rfl⟩
 have d3 : w.cell? ⟨sg, j * 36 + 3, none⟩ = some (.int .i64 cm) := by
  rw [h.shotC hsv j hj 3 (by omega)]
  rw [List.getElem?_eq_getElem hj] at hx
  have : s.sh[j] = x := by simpa using hx
  rw [this, ← hcm]
  rfl
 rw [hcm]
 have c37 : w.cell? ⟨b, 37, none⟩ = some (.slice none 0 0) := by rw [← hmn]; exact h.cells.2.2.2.2.2
 have HO : Hid (RRep B w b s ∧ s.mv = .slice none 0 0 ∧ s.ms = [] ∧ Tryz.prog.info? 129 = some i0) := ⟨h, hmn, hms, i0h⟩
 obtain ⟨m, hm⟩ : ∃ m, s.sh.length = m := ⟨_, rfl⟩
 rw [hm] at c36 hcap hj hs
 have j0 : ¬ ((j : Int) < 0) := by omega
 have hjm : (j : Int) < (m : Int) := by omega
 obtain ⟨w1, hw1⟩ : ∃ w1, w.alloc (.cells #[.int .i64 g, .int .i64 cm] 129) = w1 := ⟨_, rfl⟩
 obtain ⟨mb, hmb⟩ : ∃ mb, w.heap.size = mb := ⟨_, rfl⟩
 have HW : Hid (Fr [] w w1 ∧ w1.heap[mb]? = some (.cells #[.int .i64 g, .int .i64 cm] 129 (0, 0))) := ⟨by rw [← hw1]; exact (Fr.refl _ _).alloc _, by rw [← hw1, ← hmb]; exact heap_alloc_new w _⟩
 clear h hf hg hx ho hsv hcc hm hcm i0h hms hmn
 go_enter Tryz.func43, Tryz.ntmps43
 go_wp2_with (first
  | (go_at_call 66; refine HS.mono ?_; rintro e w' ⟨rfl, hw'⟩; have hw' := hw'.symm; subst hw')
  | (go_at_call 72; refine HM.mono ?_; rintro e w' ⟨rfl, hw'⟩; have hw' := hw'.symm; subst hw'))
 clear hw1 hmb HS HM c36 d3 c37
 go_loopw [8] (fun i wr => i = .int .i64 0 ∧ Hid (Fr [] w wr ∧ wr.heap[mb]? = some (.cells #[.int .i64 g, .int .i64 cm] 129 (0, 0)))) (fun _ _ => 0)
 case atStart => exact ⟨rfl, HW⟩
 case round =>
  obtain ⟨rfl, HK⟩ := hrel
  obtain ⟨W3, hW3⟩ : ∃ W3, W3 = wr := ⟨_, rfl⟩
  subst hW3
  clear HW
  have R3 := HO.out.1.kept0 HK.out.1
  have e37 : ∀ q, (W3.drewN q).cell? ⟨b, 37, none⟩ = some (.slice none 0 0) := fun q => by have := R3.cells.2.2.2.2.2; rw [HO.out.2.1] at this; exact this
  have em : ∀ q, (W3.drewN q).cell? ⟨mb, 1, none⟩ = some (.int .i64 cm) := fun q => by
   show W3.cell? ⟨mb, 1, none⟩ = _
   rw [cell_of HK.out.2]; rfl
  have em0 : ∀ q, (W3.drewN q).cell? ⟨mb, 0, none⟩ = some (.int .i64 g) := fun q => by
   show W3.cell? ⟨mb, 0, none⟩ = _
   rw [cell_of HK.out.2]; rfl
  have hi := HO.out.2.2.2
  clear R3
  go_wp2
  go_quiet (fail)
  have H4 : Hid (Fr [] w (W3.drewN nq)) := HK.out.1.drewQ nq
  have f37 := e37 nq
  have fm0 := em0 nq
  have fm1 := em nq
  generalize W3.drewN nq = W4 at H4 f37 fm0 fm1 ⊢
  clear e37 em HK em0
  go_wp2_with (first
   | (at_builtin; refine wpList_append_own_none rfl _ _ 84 rfl W4.heap.size 129 i0 2 Tryz.underlying84 hi (.slice none 0 0) 0 [] rfl (World.ownsRow_nil _ _ _ _) rfl ?_)
   | (at_builtin; refine wpList_append_own _ rfl _ _ 84 rfl W4.heap.size 129 i0 _ 2 16 Tryz.underlying84 hi hz0 hz1 hz2 rfl (by omega) (.slice none 0 0) 0 [] rfl (World.ownsRow_nil _ _ _ _) ⟨W4.heap.size, 0, none⟩ 1 1 [.int .i64 g, .int .i64 cm] rfl rfl (World.news_of_block (cs := #[.int .i64 g, .int .i64 cm]) (t := 129) (fr := (0, 0)) (heap_alloc_new W4 _)) (by simp [Value.oneCell']) (by unfold maxLen; omega) (by omega) (by simp) ?_; intro v6 w6 hown6 hgrow6 _
      have H6 : Hid (w6.ownsRow W4.heap.size 129 2 v6 1 [.int .i64 g, .int .i64 cm] ∧ Fr [] W4 w6) := ⟨hown6, ((Fr.refl _ _).alloc _).grown hgrow6 (fun x hx => by simp [Value.ownBlock] at hx)⟩
      have f37'' : w6.cell? ⟨b, 37, none⟩ = some (.slice none 0 0) := H6.out.2.gb.cell f37 (by simp)
      have fz : w6.frozen? ⟨b, 37, none⟩ = false := (HO.out.1.kept0 (H4.out.trans H6.out.2 (by simp))).frozen 37
      obtain ⟨ao6, c6, e6⟩ := own_shape H6.out.1
      subst e6
      clear hown6 hgrow6)
   | (at_builtin; refine wpList_append_own_none rfl _ _ 84 rfl W4.heap.size 129 i0 2 Tryz.underlying84 hi (.slice ao6 1 c6) 1 _ rfl H6.out.1 rfl ?_))
  go_ret
  exact ⟨rfl, rmark_fin (n := 0) (k := 0) HO.out.1 H4.out H6.out.2 (by rw [HO.out.2.2.1]; rfl) (by rw [HO.out.2.2.1]; rfl) (by rw [HO.out.2.2.1]; exact H6.out.1)⟩
def gls (s : Sto) : List Int := s.ss.map Sn.guid ++ s.ms.map Prod.fst
def CT (C : Int → Int × Int) (G : List Int) (cam now n z : Int) : Prop := (0 ≤ n ∧ n ≤ cam ∧ z ≤ now) ∧ ∀ g ∈ G, ((C g).1 ≤ n ↔ (C g).2 < z)
structure CC (s : Sto) (r : RSto) (C : Int → Int × Int) : Prop where
 ps : ∀ x ∈ s.ss, x.came = (C x.guid).1
 pm : ∀ m ∈ s.ms, m.2 = (C m.1).1
 rs : ∀ x ∈ r.sh, x.came = (C x.guid).2
 rm : ∀ m ∈ r.ms, m.2 = (C m.1).2
 rng : ∀ g ∈ gls s, (1 ≤ (C g).1 ∧ (C g).1 ≤ s.came) ∧ 1 ≤ (C g).2 ∧ (C g).2 ≤ r.now
 ord : ∀ g ∈ gls s, ∀ g' ∈ gls s, ((C g).1 < (C g').1 ↔ (C g).2 < (C g').2)
 inj : ∀ g ∈ gls s, ∀ g' ∈ gls s, (C g).1 = (C g').1 → g = g'
 vb : ∀ j (hj : j < s.vol.length), ∃ z, r.born[j]? = some z ∧ CT C (gls s) s.came r.now s.vol[j].n z
 tb : ∀ x ∈ r.sh, ∀ j : Nat, j < s.vol.length → ∃ z, x.born[j]? = some z ∧ CT C (gls s) s.came r.now (s.th x.guid j).n z
structure Sim (s : Sto) (r : RSto) (q : Nat) : Prop where
 id : r.id = s.id ∧ 1 ≤ s.id ∧ s.id ≤ 999
 bl : r.blocks = s.vol.length ∧ 1 ≤ s.vol.length ∧ s.vol.length ≤ 16
 dat : ∀ j (hj : j < s.vol.length), r.dat[j]? = some s.vol[j].x.ba
 last : r.last = s.taken
 cm : (0 ≤ s.came ∧ s.came ≤ q) ∧ 0 ≤ s.taken ∧ s.taken ≤ 999999
 ss : s.ss.map t3 = r.sh.map r3
 ms : s.ms.map Prod.fst = r.ms.map Prod.fst
 th : ∀ x ∈ r.sh, ∀ j : Nat, j < s.vol.length → x.dat[j]? = some (s.th x.guid j).x.ba
 len : s.ss.length ≤ 12 ∧ s.ms.length ≤ 12
 nd : (s.ss.map Sn.guid).Nodup
 mnd : (s.ms.map Prod.fst).Nodup
 mp : r.ms.Pairwise fun a b => a.2 < b.2
 gr : ∀ g ∈ gls s, 1 ≤ g ∧ g ≤ 999999999
 tr : ∀ x ∈ s.ss, 0 ≤ x.time ∧ x.time ≤ 1073741824
 ho : ∀ x ∈ s.ss, 0 ≤ x.holds ∧ x.holds ≤ 9
 cc : ∃ C, CC s r C
 rn : 0 ≤ r.now ∧ r.now ≤ 2 * q
 lg : s.log.length ≤ 100 + 110 * q
 cn : s.cnt ≤ 16 * q
section
variable {s s' : Sto} {r r' : RSto} {q : Nat} {C : Int → Int × Int}
theorem CT.sub {G G' : List Int} {a b n z : Int} (h : CT C G a b n z) (hs : ∀ g ∈ G', g ∈ G) : CT C G' a b n z := ⟨h.1, fun g hg => h.2 g (hs g hg)⟩
theorem mem_gls {g : Int} : g ∈ gls s ↔ (∃ x ∈ s.ss, x.guid = g) ∨ ∃ m ∈ s.ms, m.1 = g := by
 unfold gls
 rw [List.mem_append, List.mem_map, List.mem_map]
theorem CC.sub (c : CC s r C) (h1 : ∀ x ∈ s'.ss, ∃ y ∈ s.ss, x.guid = y.guid ∧ x.came = y.came) (h2 : ∀ m ∈ s'.ms, m ∈ s.ms ∨ ∃ y ∈ s.ss, m = (y.guid, y.came))
  (h3 : ∀ x ∈ r'.sh, ∃ y ∈ r.sh, x.guid = y.guid ∧ x.came = y.came ∧ x.born = y.born) (h4 : ∀ m ∈ r'.ms, m ∈ r.ms ∨ ∃ y ∈ r.sh, m = (y.guid, y.came))
  (hv : s'.vol = s.vol) (hb : r'.born = r.born) (hc : s'.came = s.came) (hn : r'.now = r.now) (ht : ∀ x ∈ r'.sh, ∀ j : Int, s'.th x.guid j = s.th x.guid j) : CC s' r' C := by
 have hg : ∀ g ∈ gls s', g ∈ gls s := fun g hg => by
  rcases mem_gls.1 hg with ⟨x, hx, rfl⟩ | ⟨m, hm, rfl⟩
  · obtain ⟨y, hy, e, _⟩ := h1 x hx
    exact mem_gls.2 (Or.inl ⟨y, hy, e.symm⟩)
  · rcases h2 m hm with hm | ⟨y, hy, rfl⟩
    · exact mem_gls.2 (Or.inr ⟨m, hm, rfl⟩)
    · exact mem_gls.2 (Or.inl ⟨y, hy, rfl⟩)
 refine ⟨fun x hx => ?_, fun m hm => ?_, fun x hx => ?_, fun m hm => ?_, fun g h => by rw [hc, hn]; exact c.rng g (hg g h), fun g h g' h' => c.ord g (hg g h) g' (hg g' h'), fun g h g' h' => c.inj g (hg g h) g' (hg g' h'), fun j hj => ?_, fun x hx j hj => ?_⟩
 · obtain ⟨y, hy, e1, e2⟩ := h1 x hx
   rw [e1, e2]
   exact c.ps y hy
 · rcases h2 m hm with hm | ⟨y, hy, rfl⟩
   · exact c.pm m hm
   · exact c.ps y hy
 · obtain ⟨y, hy, e1, e2, _⟩ := h3 x hx
   rw [e1, e2]
   exact c.rs y hy
 · rcases h4 m hm with hm | ⟨y, hy, rfl⟩
   · exact c.rm m hm
   · exact c.rs y hy
 · have hj' : j < s.vol.length := by rw [← hv]; exact hj
   obtain ⟨z, h5, h6⟩ := c.vb j hj'
   have e : s'.vol[j] = s.vol[j] := by simp only [hv]
   exact ⟨z, by rw [hb]; exact h5, by rw [hc, hn, e]; exact h6.sub hg⟩
 · obtain ⟨y, hy, e1, e2, e3⟩ := h3 x hx
   obtain ⟨z, h5, h6⟩ := c.tb y hy j (by rw [← hv]; exact hj)
   exact ⟨z, by rw [e3]; exact h5, by rw [hc, hn, ht x hx, e1]; exact h6.sub hg⟩
theorem Sim.guids (h : Sim s r q) : s.ss.map Sn.guid = r.sh.map RSh.guid := by
 have e := congrArg (List.map (fun x : Int × Int × Int => x.1)) h.ss
 rw [List.map_map, List.map_map] at e
 exact e
theorem Sim.glen (h : Sim s r q) : r.sh.length = s.ss.length := by have := congrArg List.length h.ss; simpa using this.symm
theorem Sim.mlen (h : Sim s r q) : r.ms.length = s.ms.length := by have := congrArg List.length h.ms; simpa using this.symm
theorem Sim.le (h : Sim s r q) {q' : Nat} (hq : q ≤ q') : Sim s r q' :=
 ⟨h.id, h.bl, h.dat, h.last, ⟨⟨h.cm.1.1, by have := h.cm.1.2; omega⟩, h.cm.2⟩, h.ss, h.ms, h.th, h.len, h.nd, h.mnd, h.mp, h.gr, h.tr, h.ho, h.cc, ⟨h.rn.1, by have := h.rn.2; omega⟩, by have := h.lg; omega, by have := h.cn; omega⟩
theorem Sim.rnd (h : Sim s r q) : (r.sh.map RSh.guid).Nodup := by rw [← h.guids]; exact h.nd
theorem Sim.fi (h : Sim s r q) (g : Int) : fi (fun y : RSh => y.guid == g) 0 r.sh = fi (fun y : Sn => y.guid == g) 0 s.ss := by
 have e1 := fi_map RSh.guid (fun z : Int => z == g) r.sh 0
 have e2 := fi_map Sn.guid (fun z : Int => z == g) s.ss 0
 rw [h.guids, ← e1] at e2
 exact e2.symm
theorem Sim.fim (h : Sim s r q) (g : Int) : YthdhegmlknpllaaGreat.fi (fun y : Int × Int => y.1 == g) 0 r.ms = YthdhegmlknpllaaGreat.fi (fun y : Int × Int => y.1 == g) 0 s.ms := by
 have e1 := fi_map (Prod.fst : Int × Int → Int) (fun z : Int => z == g) r.ms 0
 have e2 := fi_map (Prod.fst : Int × Int → Int) (fun z : Int => z == g) s.ms 0
 rw [h.ms, ← e1] at e2
 exact e2.symm
theorem fi_cases {α : Type} (p : α → Bool) (l : List α) : YthdhegmlknpllaaGreat.fi p 0 l = -1 ∨ ∃ j, ∃ h : j < l.length, YthdhegmlknpllaaGreat.fi p 0 l = (j : Int) ∧ p l[j] = true := by
 by_cases hx : ∃ x ∈ l, p x = true
 · obtain ⟨j, hj, e, h⟩ := fi_some l 0 hx
   exact Or.inr ⟨j, hj, by simpa using e, h⟩
 · exact Or.inl (fi_none l 0 (fun x h => by cases hp : p x; rfl; exact absurd ⟨x, h, hp⟩ hx))
theorem Sim.at (h : Sim s r q) {j : Nat} (hj : j < s.ss.length) : t3 s.ss[j] = r3 (r.sh[j]'(by rw [h.glen]; exact hj)) := by
 have e := congrArg (fun l => l[j]?) h.ss
 simp only [List.getElem?_map] at e
 rw [List.getElem?_eq_getElem hj, List.getElem?_eq_getElem (by rw [h.glen]; exact hj)] at e
 simpa using e
theorem Sim.setH (h : Sim s r q) {j : Nat} {x : Sn} {y : RSh} (hx : s.ss[j]? = some x) (hy : r.sh[j]? = some y) {z : Int} (hz : 0 ≤ z ∧ z ≤ 9) {c : UInt8} {t : ByteArray} {lv : Value} (ht : t.size ≤ 50) : Sim ((s.setH j x z).noted c t lv) (r.setH j y z) (q + 1) := by
 have hj : j < s.ss.length := (List.getElem?_eq_some_iff.1 hx).1
 have ex : s.ss[j] = x := (List.getElem?_eq_some_iff.1 hx).2
 have ey : r.sh[j]'(by rw [h.glen]; exact hj) = y := (List.getElem?_eq_some_iff.1 hy).2
 have hxy := h.at hj
 rw [ex, ey] at hxy
 have hss : ((s.setH j x z).noted c t lv).ss = s.ss.set j (x.hold z) := rfl
 have hsh : (r.setH j y z).sh = r.sh.set j (y.hold z) := rfl
 have hg1 : ((s.ss.set j (x.hold z)).map Sn.guid) = s.ss.map Sn.guid := by
  have e : (x.hold z).guid = (s.ss.map Sn.guid)[j]'(by simpa using hj) := by rw [List.getElem_map, ex]; rfl
  rw [List.map_set, e, List.set_getElem_self]
 have hmem : ∀ u ∈ s.ss.set j (x.hold z), ∃ v ∈ s.ss, u.guid = v.guid ∧ u.came = v.came ∧ u.time = v.time ∧ (u.holds = v.holds ∨ u.holds = z) := fun u hu => by
  rcases List.mem_or_eq_of_mem_set hu with hu | rfl
  · exact ⟨u, hu, rfl, rfl, rfl, Or.inl rfl⟩
  · exact ⟨x, List.mem_of_getElem? hx, rfl, rfl, rfl, Or.inr rfl⟩
 have hrmem : ∀ u ∈ r.sh.set j (y.hold z), ∃ v ∈ r.sh, u.guid = v.guid ∧ u.came = v.came ∧ u.dat = v.dat ∧ u.born = v.born := fun u hu => by
  rcases List.mem_or_eq_of_mem_set hu with hu | rfl
  · exact ⟨u, hu, rfl, rfl, rfl, rfl⟩
  · exact ⟨y, List.mem_of_getElem? hy, rfl, rfl, rfl, rfl⟩
 obtain ⟨C, cc⟩ := h.cc
 refine ⟨h.id, h.bl, h.dat, h.last, ⟨⟨h.cm.1.1, by have := h.cm.1.2; show s.came ≤ _; omega⟩, h.cm.2⟩, ?_, h.ms, ?_, ⟨by rw [hss, List.length_set]; exact h.len.1, h.len.2⟩, by rw [hss, hg1]; exact h.nd, h.mnd, h.mp, ?_, ?_, ?_, ⟨C, cc.sub ?_ (fun m hm => Or.inl hm) ?_ (fun m hm => Or.inl hm) rfl rfl rfl rfl (fun _ _ _ => rfl)⟩, ⟨h.rn.1, by have := h.rn.2; show r.now ≤ _; omega⟩, ?_, by have := h.cn; show s.cnt ≤ _; omega⟩
 · rw [hss, hsh, List.map_set, List.map_set, h.ss]
   congr 1
   unfold t3 r3 at hxy ⊢
   simp only [Prod.mk.injEq] at hxy
   show (x.guid, x.time, z) = (y.guid, y.time, z)
   rw [hxy.1, hxy.2.1]
 · intro u hu k hk
   rw [hsh] at hu
   obtain ⟨v, hv, e1, _, e3, _⟩ := hrmem u hu
   rw [e1, e3]
   exact h.th v hv k hk
 · intro g hg
   refine h.gr g ?_
   unfold gls at hg ⊢
   rw [hss, hg1] at hg
   exact hg
 · intro u hu
   obtain ⟨v, hv, _, _, e, _⟩ := hmem u hu
   rw [e]
   exact h.tr v hv
 · intro u hu
   obtain ⟨v, hv, _, _, _, e⟩ := hmem u hu
   rcases e with e | e
   · rw [e]; exact h.ho v hv
   · rw [e]; exact hz
 · intro u hu
   obtain ⟨v, hv, e1, e2, _⟩ := hmem u hu
   exact ⟨v, hv, e1, e2⟩
 · intro u hu
   obtain ⟨v, hv, e1, e2, _, e4⟩ := hrmem u hu
   exact ⟨v, hv, e1, e2, e4⟩
 · show (s.log ++ entry c t).length ≤ _
   have := h.lg
   have e : (entry c t).length = t.size + 2 := by simp [entry]
   rw [List.length_append]
   omega
end
end Go.Proofs.YthdhegmlknpllaaGreat
