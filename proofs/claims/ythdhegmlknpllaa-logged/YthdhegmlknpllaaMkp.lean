/-
  What Marked's walk leans on.
-/
import Derived.Test.YthdhegmlknpllaaWhp
import Derived.Test.YthdhegmlknpllaaFro
import Derived.Test.YthdhegmlknpllaaUnm
import Derived.Test.YthdhegmlknpllaaSnd
namespace Go.Proofs.Ythdhegmlknpllaa
open Go.RowKit Go.Maps Go.MuLone

/-- A store, and the images that were kept. -/
structure MK (B b : Nat) (w wr : World) (K lg lc : Nat) (l : List (Int × Int × Value)) (s : Sto) : Prop where
  rep : Rep B wr b 0 s
  fr : Fr [] w wr
  row : wr.ownsRow B 46 3 (.slice (some ⟨lg, 0, none⟩) K lc) K (imC l)
theorem MK.step {B b : Nat} {w wr w' : World} {K lg lc : Nat} {l : List (Int × Int × Value)} {s s' : Sto} (h : MK B b w wr K lg lc l s) (hB : B = w.heap.size) (hr : Rep B w' b 0 s') (hf : Fr (foot b s) wr w') : MK B b w w' K lg lc l s' :=
  ⟨hr, h.fr.trans hf (fun j hj => Or.inr (by rw [← hB]; exact (h.rep.lt j hj).1)), own_fr h.row hf (own_foot h.rep h.row (by decide))⟩
theorem MK.step0 {B b : Nat} {w wr w' : World} {K lg lc : Nat} {l : List (Int × Int × Value)} {s : Sto} (h : MK B b w wr K lg lc l s) (hf : Fr [] wr w') : MK B b w w' K lg lc l s :=
  ⟨h.rep.kept0 hf, h.fr.trans hf (by simp), own_fr h.row hf (by simp)⟩
theorem MK.cell {B b : Nat} {w wr : World} {K lg lc : Nat} {l : List (Int × Int × Value)} {s : Sto} (h : MK B b w wr K lg lc l s) {d : Int} (hl : l.length = K) (hg : ∀ k (h : k < l.length), l[k].1 = gd d k) {j : Nat} (hj : j < K) : wr.cell? ⟨lg, j * 3, none⟩ = some (.int .i64 (gd d j)) := by
  obtain ⟨g, e, _, hc⟩ := own_addr h.row (by omega)
  have : lg = g := by simpa using e
  subst this
  rw [hc _ (by omega), (imC_get l j (by omega)).1, hg j (by omega)]

theorem gd_pos {d : Int} (h : 1 ≤ d) (k : Nat) : (gd d k == 0) = false := by
  unfold gd
  simp
  omega

variable {B b K lg lc n : Nat} {w W : World} {l : List (Int × Int × Value)} {s : Sto} {d : Int}

theorem inv_at (I : InvI s d n K) {j : Nat} (hj : j < K) : ∃ x, s.ss[j]? = some x ∧ x.guid = gd d j ∧ x.came = (j : Int) + 1 ∧ x.holds = 0 := by
  have h1 : j < s.ss.length := by rw [I.ss]; exact hj
  exact ⟨s.ss[j], List.getElem?_eq_getElem h1, I.gd j h1, (I.cd j h1).1, (I.cd j h1).2.1⟩

/-- The stream that is sent. -/
def mkT (s : Sto) (d : Int) (n a bb : Nat) (m : Int) : ByteArray := streamT (gd d a) (gd d bb) m n (flw s (gd d bb) ((a : Int) + 1) n)

theorem mk_send1 (hB : B = w.heap.size) (hd : 1 ≤ d ∧ d ≤ 999) (hn : n ≤ 16) (hK : K ≤ 12) (I : InvI s d n K) {a bb : Nat} (hab : a < bb) (hb : bb < K) {x : Sn} (hx : s.ss[bb]? = some x) (h : MK B b w W K lg lc l s) :
    Calls Try.prog 31 #[.pointer (some ⟨b, 0, none⟩), .int .i64 (gd d a), .int .i64 (gd d bb)] W fun e w' => e = .returned (.tuple #[.string (mkT s d n a bb x.time), .int .i64 0]) ∧ MK B b w w' K lg lc l s := by
  obtain ⟨xa, ha1, _, ha3, _⟩ := inv_at I (show a < K by omega)
  obtain ⟨xb, hb1, _, hb3, _⟩ := inv_at I hb
  rw [hx] at hb1
  have e : x = xb := by simpa using hb1
  have := send_ok B b s (gd d a) (gd d bb) ((a : Int) + 1) bb x W h.rep (by rw [I.ss]; exact hK) (by rw [I.vol]; exact hn) (gd64 hd (by omega)) (wi_find I.ss I.gd hb) hx (fun W' hW' => by
    have := came_snap B b 1 s (gd d a) a xa W' hW' (by rw [I.ss]; exact hK) (gd_pos hd.1 a) (wi_find I.ss I.gd (by omega)) ha1
    rw [ha3] at this
    exact this) (by rw [e, hb3]; omega)
  rw [I.vol] at this
  refine this.mono ?_
  rintro e w' ⟨rfl, r, f⟩
  exact ⟨rfl, h.step hB r f⟩

structure M1 (s s1 : Sto) (d : Int) (a : Nat) : Prop where
  ss : s1.ss = s.ss
  ms : s1.ms = [(gd d a, (a : Int) + 1)]
  vol : s1.vol = s.vol
  th : s1.th = s.th
  lg : s1.log.length ≤ 5000

theorem mk_mark (hB : B = w.heap.size) (hK : K ≤ 12) (I : InvI s d n K) {a : Nat} (ha : a < K) (h : MK B b w W K lg lc l s) :
    Calls Try.prog 26 #[.pointer (some ⟨b, 0, none⟩), .int .i64 (gd d a)] W fun e w' => e = .returned (.int .i64 0) ∧ ∃ s1, M1 s s1 d a ∧ MK B b w w' K lg lc l s1 := by
  obtain ⟨xa, ha1, _, ha3, _⟩ := inv_at I ha
  refine (mark_ok B b s (gd d a) a xa W h.rep (by rw [I.ss]; exact hK) (wi_find I.ss I.gd ha) ha1 I.ms I.mv (by have := I.lg; omega)).mono ?_
  rintro e w' ⟨rfl, mv, lv, r, f, _, _⟩
  refine ⟨rfl, (s.mark1 (gd d a) xa.came mv).noted 77 (n4 (gd d a)).ba lv, ⟨rfl, by rw [← ha3]; rfl, rfl, rfl, ?_⟩, h.step hB r f⟩
  have := I.lg
  simp only [Sto.noted, Sto.mark1, List.length_append]
  have e2 : (entry 77 (n4 (gd d a)).ba).length = 6 := rfl
  omega

structure M2 (s s2 : Sto) (d : Int) (a : Nat) : Prop where
  ss : s2.ss = left s.ss [gd d a]
  ms : s2.ms = [(gd d a, (a : Int) + 1)]
  vol : s2.vol = s.vol
  th : ∀ g i, g ≠ gd d a → s2.th g i = s.th g i
  lg : s2.log.length ≤ 6000

theorem inv_nodup (I : InvI s d n K) : (s.ss.map Sn.guid).Nodup := by
  refine List.pairwise_iff_getElem.2 fun i j hi' hj' hij => ?_
  simp only [List.length_map] at hi' hj'
  simp only [List.getElem_map, ne_eq]
  rw [I.gd i hi', I.gd j hj']
  omega

theorem mk_destroy (hB : B = w.heap.size) (hd : 1 ≤ d ∧ d ≤ 999) (hn : n ≤ 16) (hK : K ≤ 12) (I : InvI s d n K) {a : Nat} (ha : a < K) {s1 : Sto} (m1 : M1 s s1 d a) (h : MK B b w W K lg lc l s1) :
    Calls Try.prog 27 #[.pointer (some ⟨b, 0, none⟩), .slice (some ⟨W.heap.size, 0, none⟩) 1 1] (W.alloc (.cells #[.int .i64 (gd d a)] 3)) fun e w' => e = .returned (.int .i64 0) ∧ ∃ s2, M2 s s2 d a ∧ MK B b w w' K lg lc l s2 := by
  have h' := h.step0 ((Fr.refl [] W).alloc (.cells #[.int .i64 (gd d a)] 3))
  have hr : RowG (W.alloc (.cells #[.int .i64 (gd d a)] 3)) (some ⟨W.heap.size, 0, none⟩) [gd d a] 1 := by
    refine ⟨by simp, fun _ => ⟨W.heap.size, 0, rfl, fun i hi => ?_⟩⟩
    have hi0 : i = 0 := by simpa using hi
    subst hi0
    simp [tm]
  have hD := destroy_any B b s1 (some ⟨W.heap.size, 0, none⟩) [gd d a] 1 _ h'.rep (by rw [m1.ss, I.ss]; exact hK) (by rw [m1.vol, I.vol]; exact hn) (by rw [m1.ss]; exact inv_nodup I) hr (by simp) (fun i hi => by
    have hi0 : i = 0 := by simpa using hi
    subst hi0
    exact gd64 hd (by omega)) (fun k off e _ => by
      have : W.heap.size = k := by simpa using (congrArg (fun a => a.map Addr.block) e)
      subst this
      intro hm
      have := (h.rep.lt _ hm).2
      omega) (by have := m1.lg; omega)
  obtain ⟨xa, ha1, ha2, ha3, ha4⟩ := inv_at I ha
  have hj : a < s.ss.length := by rw [I.ss]; exact ha
  have hxa : s.ss[a] = xa := by
    rw [List.getElem?_eq_getElem hj] at ha1
    simpa using ha1
  have hfine : fineAt s1.ss [gd d a] 0 = true := by
    unfold fineAt
    have : s1.ss.any (isG (tm [gd d a] 0)) = true := by
      rw [m1.ss, List.any_eq_true]
      exact ⟨s.ss[a], List.getElem_mem _, by simp [isG, tm, I.gd a hj, gd]⟩
    rw [this]
    rfl
  have hheld : heldAt s1.ss [gd d a] 0 = false := by
    unfold heldAt
    rw [m1.ss, uniq_held (inv_nodup I) hj (by simp [isG, tm, I.gd a hj, gd]) (fun x => decide (x.holds > 0)), hxa, ha4]
    rfl
  refine hD.mono ?_
  rintro e w' ⟨f, hc⟩
  rcases hc with ⟨_, ⟨k, hk, hf⟩, _⟩ | ⟨_, _, ⟨k, hk, hf⟩, _⟩ | ⟨rfl, _, _, s2, p⟩
  · have hk0 : k = 0 := by simpa using hk
    rw [hk0, hfine] at hf
    cases hf
  · have hk0 : k = 0 := by simpa using hk
    rw [hk0, hheld] at hf
    cases hf
  · refine ⟨rfl, s2, ⟨by rw [p.ss, m1.ss], by rw [p.ms, m1.ms], by rw [p.vol, m1.vol], fun g i hg => by rw [p.th g i (by simpa using hg), m1.th], ?_⟩, h'.step hB p.rep f⟩
    rw [p.log, if_neg (by simp), List.length_append]
    have := m1.lg
    have e : (entry 68 (gtext [gd d a])).length = 6 := rfl
    omega

theorem left_gone (ss : List Sn) (g : Int) : fi (fun y : Sn => y.guid == g) 0 (left ss [g]) = -1 := by
  refine fi_none _ _ (fun x hx => ?_)
  unfold left at hx
  have := (List.mem_filter.1 hx).2
  simpa [isG] using this

theorem left_stays (I : InvI s d n K) {a bb : Nat} (hne : a ≠ bb) (hb : bb < K) {x : Sn} (hx : s.ss[bb]? = some x) : ∃ j : Nat, fi (fun y : Sn => y.guid == gd d bb) 0 (left s.ss [gd d a]) = (j : Int) ∧ (left s.ss [gd d a])[j]? = some x := by
  have hj : bb < s.ss.length := by rw [I.ss]; exact hb
  have hxe : s.ss[bb] = x := by
    rw [List.getElem?_eq_getElem hj] at hx
    simpa using hx
  have hg : s.ss[bb].guid = gd d bb := I.gd bb hj
  have hm : s.ss[bb] ∈ left s.ss [gd d a] := by
    unfold left
    rw [List.mem_filter]
    refine ⟨List.getElem_mem _, ?_⟩
    have : gd d bb ≠ gd d a := fun e => hne (gd_inj e).symm
    simp [isG, hg, this]
  obtain ⟨j, hjl, e, hp⟩ := fi_some (p := fun y : Sn => y.guid == gd d bb) (left s.ss [gd d a]) 0 ⟨_, hm, by simp [hg]⟩
  refine ⟨j, by rw [e, Nat.zero_add], ?_⟩
  rw [List.getElem?_eq_getElem hjl]
  have hin : (left s.ss [gd d a])[j] ∈ s.ss := (List.mem_filter.1 (List.getElem_mem hjl)).1
  obtain ⟨i, hi, ei⟩ := List.getElem_of_mem hin
  have h3 : (left s.ss [gd d a])[j].guid = gd d bb := by simpa using hp
  rw [← ei, I.gd i hi] at h3
  have hib : i = bb := gd_inj h3
  subst hib
  rw [← ei, hxe]

theorem left_le (I : InvI s d n K) (hK : K ≤ 12) (zs : List Int) : (left s.ss zs).length ≤ 12 := by
  have := List.length_filter_le (fun x => !(zs.any fun z => isG z x)) s.ss
  rw [I.ss] at this
  unfold left
  omega

theorem flw_congr {s s2 : Sto} {g c : Int} {k : Nat} (h : ∀ i, s2.th g i = s.th g i) : flw s2 g c k = flw s g c k := by
  unfold flw
  simp only [h]

theorem mk_send2 (hB : B = w.heap.size) (hd : 1 ≤ d ∧ d ≤ 999) (hn : n ≤ 16) (hK : K ≤ 12) (I : InvI s d n K) {a bb : Nat} (hab : a < bb) (hb : bb < K) {x : Sn} (hx : s.ss[bb]? = some x) {s2 : Sto} (m2 : M2 s s2 d a) (h : MK B b w W K lg lc l s2) :
    Calls Try.prog 31 #[.pointer (some ⟨b, 0, none⟩), .int .i64 (gd d a), .int .i64 (gd d bb)] W fun e w' => e = .returned (.tuple #[.string (mkT s d n a bb x.time), .int .i64 0]) ∧ MK B b w w' K lg lc l s2 := by
  obtain ⟨xb, hb1, _, hb3, _⟩ := inv_at I hb
  rw [hx] at hb1
  have e : x = xb := by simpa using hb1
  obtain ⟨j, hj1, hj2⟩ := left_stays I (by omega : a ≠ bb) hb hx
  have := send_ok B b s2 (gd d a) (gd d bb) ((a : Int) + 1) j x W h.rep (by rw [m2.ss]; exact left_le I hK _) (by rw [m2.vol, I.vol]; exact hn) (gd64 hd (by omega)) (by rw [m2.ss]; exact hj1) (by rw [m2.ss]; exact hj2) (fun W' hW' => by
    have := came_mark B b 1 s2 (gd d a) 0 (gd d a, (a : Int) + 1) W' hW' (by rw [m2.ss]; exact left_le I hK _) (by rw [m2.ms]; simp) (gd_pos hd.1 a) (by rw [m2.ss]; exact left_gone _ _) (by rw [m2.ms]; simp [fi]) (by rw [m2.ms]; rfl)
    exact this) (by rw [e, hb3]; omega)
  rw [m2.vol, I.vol, flw_congr (fun i => m2.th (gd d bb) i (fun e => by have := gd_inj e; omega))] at this
  refine this.mono ?_
  rintro e w' ⟨rfl, r, f⟩
  exact ⟨rfl, h.step hB r f⟩

theorem mk_send3 (hB : B = w.heap.size) (hd : 1 ≤ d ∧ d ≤ 999) (hK : K ≤ 12) (I : InvI s d n K) {a bb : Nat} (hab : a < bb) (hb : bb < K) {x : Sn} (hx : s.ss[bb]? = some x) {s2 : Sto} (m2 : M2 s s2 d a) (h : MK B b w W K lg lc l s2) :
    Calls Try.prog 31 #[.pointer (some ⟨b, 0, none⟩), .int .i64 (gd d bb), .int .i64 (gd d bb)] W fun e w' => e = .returned (.tuple #[.string ⟨#[]⟩, .int .i64 1]) ∧ MK B b w w' K lg lc l s2 := by
  obtain ⟨j, hj1, hj2⟩ := left_stays I (by omega : a ≠ bb) hb hx
  refine (send_arg B b s2 (gd d bb) (gd d bb) x.came j x W h.rep (by rw [m2.ss]; exact left_le I hK _) (by rw [m2.ss]; exact hj1) (by rw [m2.ss]; exact hj2) (fun W' hW' => came_snap B b 1 s2 (gd d bb) j x W' hW' (by rw [m2.ss]; exact left_le I hK _) (gd_pos hd.1 bb) (by rw [m2.ss]; exact hj1) (by rw [m2.ss]; exact hj2)) (by omega)).mono ?_
  rintro e w' ⟨rfl, r, f⟩
  exact ⟨rfl, h.step hB r f⟩

theorem mk_unmark (hB : B = w.heap.size) {a : Nat} {s2 : Sto} (m2 : M2 s s2 d a) (h : MK B b w W K lg lc l s2) :
    Calls Try.prog 34 #[.pointer (some ⟨b, 0, none⟩), .int .i64 (gd d a)] W fun e w' => e = .returned (.int .i64 0) ∧ ∃ s3, (s3.ss = s2.ss ∧ s3.ms = []) ∧ MK B b w w' K lg lc l s3 := by
  refine (unmark_ok B b s2 (gd d a) 0 W h.rep (by rw [m2.ms]; simp) (by rw [m2.ms]; simp [fi]) (by rw [m2.ms]; simp) (by have := m2.lg; omega)).mono ?_
  rintro e w' ⟨rfl, mv, lv, r, f, _, _⟩
  exact ⟨rfl, (s2.unmark 0 mv).noted 85 (n4 (gd d a)).ba lv, ⟨rfl, by simp [Sto.noted, Sto.unmark, m2.ms]⟩, h.step hB r f⟩

theorem mk_send4 (hB : B = w.heap.size) (hd : 1 ≤ d ∧ d ≤ 999) (hK : K ≤ 12) (I : InvI s d n K) {a bb : Nat} (hab : a < bb) (hb : bb < K) {x : Sn} (hx : s.ss[bb]? = some x) {s2 s3 : Sto} (m2 : M2 s s2 d a) (m3 : s3.ss = s2.ss ∧ s3.ms = []) (h : MK B b w W K lg lc l s3) :
    Calls Try.prog 31 #[.pointer (some ⟨b, 0, none⟩), .int .i64 (gd d a), .int .i64 (gd d bb)] W fun e w' => e = .returned (.tuple #[.string ⟨#[]⟩, .int .i64 3]) ∧ MK B b w w' K lg lc l s3 := by
  obtain ⟨j, hj1, hj2⟩ := left_stays I (by omega : a ≠ bb) hb hx
  refine (send_none B b s3 (gd d a) (gd d bb) j W h.rep (by rw [m3.1, m2.ss]; exact left_le I hK _) (by rw [m3.1, m2.ss]; exact hj1) (fun W' hW' => came_none B b 1 s3 (gd d a) W' hW' (by rw [m3.1, m2.ss]; exact left_le I hK _) (by rw [m3.2]; simp) (gd_pos hd.1 a) (by rw [m3.1, m2.ss]; exact left_gone _ _) (by rw [m3.2]; rfl))).mono ?_
  rintro e w' ⟨rfl, r, f⟩
  exact ⟨rfl, h.step hB r f⟩
end Go.Proofs.Ythdhegmlknpllaa
