import Derived.Test.YthdhegmlknpllabGreatDoorM10
import Derived.Test.YthdhegmlknpllabGreatDoorM36
/-
  Parse of the two grids that the laws' nodes have.
-/
namespace Go.Proofs.YthdhegmlknpllabGreatDoor
open Go.RowKit Go.Maps Go.MuLone

theorem parses_of (t : ByteArray) (rs : List (Int × Int)) (hs : t.size ≤ 1000) (h : Gp.Pl.rp 5 (Gp.dl t) = some rs) : ParsesTo t rs := fun W => by
  have := Gp.gparse_any t W (by omega)
  rw [h] at this
  refine this.mono ?_
  rintro e w' ⟨v, rfl, o, b⟩
  exact ⟨v, rfl, o, Below.fr b⟩

/-- "2x4 3x15" -/
def gridS : ByteArray := ⟨#[50, 120, 52, 32, 51, 120, 49, 53]⟩
/-- "1x3 2x30" -/
def gridR : ByteArray := ⟨#[49, 120, 51, 32, 50, 120, 51, 48]⟩
theorem parses_S : ParsesTo gridS [(2, 4), (3, 15)] := parses_of _ _ (by decide) (by decide)
theorem parses_R : ParsesTo gridR [(1, 3), (2, 30)] := parses_of _ _ (by decide) (by decide)
theorem okRs_S : Kp.okRs [(2, 4), (3, 15)] = true := by decide
theorem okRs_R : Kp.okRs [(1, 3), (2, 30)] = true := by decide

/-- What is new is a replica's store. -/
theorem newS_RP (id : Int) (n vb mb : Nat) (lv : Value) (_hq : 1 ≤ n) : RP (newS id n vb mb lv) n 1 :=
  ⟨by simp [newS, Sto.noted, Sto.fresh], by simp [newS, Sto.noted, Sto.fresh], by simp [newS, Sto.noted, Sto.fresh], by simp [newS, Sto.noted, Sto.fresh], by simp [newS, Sto.noted, Sto.fresh], by simp [newS, Sto.noted, Sto.fresh], by simp [newS, Sto.noted, Sto.fresh], by simp [newS, Sto.noted, Sto.fresh], by simp [newS, Sto.noted, Sto.fresh], by
    simp [newS, Sto.noted, Sto.fresh, entry, ntext]
    exact Nat.le_trans (show (n4 id).ba.size ≤ 4 from Nat.le_refl _) (by decide)⟩
end Go.Proofs.YthdhegmlknpllabGreatDoor

/-
  A source in memory; the walks of node's Source.Store (13), hasPeer (45), Known (26), peer.isDue (42).
-/
namespace Go.Proofs.YthdhegmlknpllabGreatDoor
open Go.RowKit Go.Maps Go.MuLone

/-- What a source remembers of a replica. -/
structure Pe where
  k : Int
  x : Int
  g : Int
  num : Int
  aw : Int
  un : Int
  tr : Int
def Pe.cells (p : Pe) : List Value := [.int .i64 p.k, .int .i64 p.x, .int .i64 p.g, .int .i64 p.num, .int .u8 p.aw, .int .i64 p.un, .int .i64 p.tr]
def psC (l : List Pe) : List Value := l.flatMap Pe.cells
theorem psC_get (l : List Pe) (i : Nat) (h : i < l.length) : (psC l)[i * 7]? = some (.int .i64 l[i].k) ∧ (psC l)[i * 7 + 1]? = some (.int .i64 l[i].x) ∧ (psC l)[i * 7 + 2]? = some (.int .i64 l[i].g) ∧ (psC l)[i * 7 + 3]? = some (.int .i64 l[i].num) ∧ (psC l)[i * 7 + 4]? = some (.int .u8 l[i].aw) ∧ (psC l)[i * 7 + 5]? = some (.int .i64 l[i].un) ∧ (psC l)[i * 7 + 6]? = some (.int .i64 l[i].tr) := by
  have hf : ∀ x : Pe, (Pe.cells x).length = 7 := fun _ => rfl
  exact ⟨flat_get hf l i h 0 (by omega), flat_get hf l i h 1 (by omega), flat_get hf l i h 2 (by omega), flat_get hf l i h 3 (by omega), flat_get hf l i h 4 (by omega), flat_get hf l i h 5 (by omega), flat_get hf l i h 6 (by omega)⟩
theorem psC_len (l : List Pe) : (psC l).length = l.length * 7 := by
  induction l with
  | nil => rfl
  | cons x l ih => simp [psC, Pe.cells] at ih ⊢; omega
theorem psC_set : ∀ (l : List Pe) (i j : Nat) (v : Value) (p : Pe), j < 7 → (∀ h : i < l.length, p.cells = (l[i].cells).set j v) → i < l.length → (psC l).set (i * 7 + j) v = psC (l.set i p)
  | [], i, j, v, p, _, _, h => by simp at h
  | y :: l, 0, j, v, p, hj, hp, _ => by
    have := hp (by simp)
    simp only [List.getElem_cons_zero] at this
    simp only [psC, List.flatMap_cons, List.set_cons_zero, Nat.zero_mul, Nat.zero_add]
    rw [this, List.set_append_left _ _ (by show j < 7; exact hj)]
  | y :: l, i + 1, j, v, p, hj, hp, h => by
    have ih := psC_set l i j v p hj (fun h' => by have := hp (by simpa using h'); simpa using this) (by simpa using h)
    simp only [psC, List.flatMap_cons, List.set_cons_succ] at ih ⊢
    rw [List.set_append_right _ _ (by show 7 ≤ _; omega)]
    congr 1
    rw [← ih]
    congr 1
    show (i + 1) * 7 + j - 7 = _
    omega

/-- A source: its keeper, its numbers, its peers. -/
structure SK (B b xb pb RB : Nat) (W : World) (s : Sto) (last : Int) (ra : Option Addr) (rs : List (Int × Int)) (rc : Nat) (ev wt mo ti : Int) (ps : List Pe) : Prop where
  rep : Rep B W b 0 s
  blk : W.heap[xb]? = some (.cells #[.pointer (some ⟨b, 0, none⟩), .int .i64 last, .slice ra rs.length rc, .int .i64 ev, .int .i64 wt, .int .i64 mo, .int .i64 ti, .slice (some ⟨pb, 0, none⟩) ps.length ps.length] 73 (0, 0))
  pr : W.heap[pb]? = some (.cells (psC ps).toArray 112 (0, 0))
  ru : W.ownsRow RB 158 2 (.slice ra rs.length rc) rs.length (rlC rs)

section
variable {B b xb pb RB : Nat} {W W' : World} {s s2 : Sto} {last : Int} {ra : Option Addr} {rs : List (Int × Int)} {rc : Nat} {ev wt mo ti : Int} {ps : List Pe}
theorem SK.rk (h : SK B b xb pb RB W s last ra rs rc ev wt mo ti ps) : RK B b xb RB W s last ra rs rc :=
  ⟨h.rep, ⟨by rw [cell_of h.blk]; rfl, by rw [cell_of h.blk]; rfl, by rw [cell_of h.blk]; rfl⟩, tag_foot h.rep h.blk (by decide), h.ru⟩
theorem SK.same (h : SK B b xb pb RB W s last ra rs rc ev wt mo ti ps) (hf : Fr [] W W') : SK B b xb pb RB W' s last ra rs rc ev wt mo ti ps :=
  ⟨h.rep.kept0 hf, by rw [hf.block xb (Array.getElem?_eq_some_iff.1 h.blk).1 (by simp)]; exact h.blk, by rw [hf.block pb (Array.getElem?_eq_some_iff.1 h.pr).1 (by simp)]; exact h.pr, own_fr' h.ru hf⟩
theorem SK.step (h : SK B b xb pb RB W s last ra rs rc ev wt mo ti ps) (hr : Rep B W' b 0 s2) (hf : Fr (foot b s) W W') : SK B b xb pb RB W' s2 last ra rs rc ev wt mo ti ps :=
  ⟨hr, by rw [hf.block xb (Array.getElem?_eq_some_iff.1 h.blk).1 (tag_foot h.rep h.blk (by decide))]; exact h.blk, by rw [hf.block pb (Array.getElem?_eq_some_iff.1 h.pr).1 (tag_foot h.rep h.pr (by decide))]; exact h.pr, own_fr h.ru hf (own_foot h.rep h.ru (by decide))⟩
theorem SK.ne (h : SK B b xb pb RB W s last ra rs rc ev wt mo ti ps) : xb ≠ pb := fun e => by
  have h1 := h.blk
  rw [e, h.pr] at h1
  simp at h1
/-- A peer's cell is written. -/
theorem SK.setP (h : SK B b xb pb RB W s last ra rs rc ev wt mo ti ps) (i j : Nat) (v : Value) (p : Pe) (hi : i < ps.length) (hj : j < 7) (hp : p.cells = (ps[i].cells).set j v) : SK B b xb pb RB (W.setCell ⟨pb, i * 7 + j, none⟩ v) s last ra rs rc ev wt mo ti (ps.set i p) := by
  have hf : Fr [pb] W (W.setCell ⟨pb, i * 7 + j, none⟩ v) := (Fr.refl _ _).setCell _ (Or.inl (by simp))
  have htf : pb ∉ foot b s := tag_foot h.rep h.pr (by decide)
  refine ⟨h.rep.kept hf (fun k hk hm => by simp at hm; subst hm; exact htf hk), ?_, ?_, own_fr h.ru hf (fun k hk hm => ?_)⟩
  · rw [heap_setCell_other _ _ _ _ h.ne, List.length_set]
    exact h.blk
  · rw [heap_setCell_same _ _ _ _ _ _ h.pr, ← psC_set ps i j v p hj (fun _ => hp) hi]
    simp
  · obtain ⟨_, cur, h4⟩ := own_tag h.ru hk
    simp at hm
    rw [hm, h.pr] at h4
    simp at h4
/-- The time is written. -/
theorem SK.setT (h : SK B b xb pb RB W s last ra rs rc ev wt mo ti ps) (t2 : Int) : SK B b xb pb RB (W.setCell ⟨xb, 6, none⟩ (.int .i64 t2)) s last ra rs rc ev wt mo t2 ps := by
  have hf : Fr [xb] W (W.setCell ⟨xb, 6, none⟩ (.int .i64 t2)) := (Fr.refl _ _).setCell _ (Or.inl (by simp))
  have htf : xb ∉ foot b s := tag_foot h.rep h.blk (by decide)
  refine ⟨h.rep.kept hf (fun k hk hm => by simp at hm; subst hm; exact htf hk), ?_, ?_, own_fr h.ru hf (fun k hk hm => ?_)⟩
  · rw [heap_setCell_same _ _ _ _ _ _ h.blk]
    rfl
  · rw [heap_setCell_other _ _ _ _ (Ne.symm h.ne)]
    exact h.pr
  · obtain ⟨_, cur, h4⟩ := own_tag h.ru hk
    simp at hm
    rw [hm, h.blk] at h4
    simp at h4
end

/-- A source's cells. -/
structure SC (W : World) (b xb pb : Nat) (last : Int) (rv : Value) (ev wt mo ti : Int) (n : Nat) : Prop where
  c0 : W.cell? ⟨xb, 0, none⟩ = some (.pointer (some ⟨b, 0, none⟩))
  c1 : W.cell? ⟨xb, 1, none⟩ = some (.int .i64 last)
  c2 : W.cell? ⟨xb, 2, none⟩ = some rv
  c3 : W.cell? ⟨xb, 3, none⟩ = some (.int .i64 ev)
  c4 : W.cell? ⟨xb, 4, none⟩ = some (.int .i64 wt)
  c5 : W.cell? ⟨xb, 5, none⟩ = some (.int .i64 mo)
  c6 : W.cell? ⟨xb, 6, none⟩ = some (.int .i64 ti)
  c7 : W.cell? ⟨xb, 7, none⟩ = some (.slice (some ⟨pb, 0, none⟩) n n)
theorem SK.sc {B b xb pb RB : Nat} {W : World} {s : Sto} {last : Int} {ra : Option Addr} {rs : List (Int × Int)} {rc : Nat} {ev wt mo ti : Int} {ps : List Pe} (h : SK B b xb pb RB W s last ra rs rc ev wt mo ti ps) : SC W b xb pb last (.slice ra rs.length rc) ev wt mo ti ps.length :=
  ⟨by rw [cell_of h.blk]; rfl, by rw [cell_of h.blk]; rfl, by rw [cell_of h.blk]; rfl, by rw [cell_of h.blk]; rfl, by rw [cell_of h.blk]; rfl, by rw [cell_of h.blk]; rfl, by rw [cell_of h.blk]; rfl, by rw [cell_of h.blk]; rfl⟩
/-- A peer's cells. -/
structure PC (W : World) (pb i : Nat) (p : Pe) : Prop where
  c0 : W.cell? ⟨pb, i * 7, none⟩ = some (.int .i64 p.k)
  c1 : W.cell? ⟨pb, i * 7 + 1, none⟩ = some (.int .i64 p.x)
  c2 : W.cell? ⟨pb, i * 7 + 2, none⟩ = some (.int .i64 p.g)
  c3 : W.cell? ⟨pb, i * 7 + 3, none⟩ = some (.int .i64 p.num)
  c4 : W.cell? ⟨pb, i * 7 + 4, none⟩ = some (.int .u8 p.aw)
  c5 : W.cell? ⟨pb, i * 7 + 5, none⟩ = some (.int .i64 p.un)
  c6 : W.cell? ⟨pb, i * 7 + 6, none⟩ = some (.int .i64 p.tr)
theorem SK.pc {B b xb pb RB : Nat} {W : World} {s : Sto} {last : Int} {ra : Option Addr} {rs : List (Int × Int)} {rc : Nat} {ev wt mo ti : Int} {ps : List Pe} (h : SK B b xb pb RB W s last ra rs rc ev wt mo ti ps) (i : Nat) (hi : i < ps.length) : PC W pb i ps[i] := by
  obtain ⟨g0, g1, g2, g3, g4, g5, g6⟩ := psC_get ps i hi
  exact ⟨by rw [cell_of h.pr, List.getElem?_toArray]; exact g0, by rw [cell_of h.pr, List.getElem?_toArray]; exact g1, by rw [cell_of h.pr, List.getElem?_toArray]; exact g2, by rw [cell_of h.pr, List.getElem?_toArray]; exact g3, by rw [cell_of h.pr, List.getElem?_toArray]; exact g4, by rw [cell_of h.pr, List.getElem?_toArray]; exact g5, by rw [cell_of h.pr, List.getElem?_toArray]; exact g6⟩

theorem store_s {W : World} {b xb pb : Nat} {last : Int} {rv : Value} {ev wt mo ti : Int} {n : Nat} (h : SC W b xb pb last rv ev wt mo ti n) :
    Calls Tryz.prog 13 #[.pointer (some ⟨xb, 0, none⟩)] W fun e w' => e = .returned (.pointer (some ⟨b, 0, none⟩)) ∧ w' = W := by
  have c0 := h.c0
  clear h
  go_enter Tryz.func13, Tryz.ntmps13
  go_wp2
  go_ret
  exact ⟨rfl, rfl⟩
theorem store_r {W : World} {b kb : Nat} {last : Int} {rv : Value} (h : KpC W kb b last rv) :
    Calls Tryz.prog 20 #[.pointer (some ⟨kb, 0, none⟩)] W fun e w' => e = .returned (.pointer (some ⟨b, 0, none⟩)) ∧ w' = W := by
  have c0 := h.c0
  clear h
  go_enter Tryz.func20, Tryz.ntmps20
  go_wp2
  go_ret
  exact ⟨rfl, rfl⟩
theorem hasPeer_yes {W : World} {b xb pb : Nat} {last : Int} {rv : Value} {ev wt mo ti : Int} {n : Nat} (h : SC W b xb pb last rv ev wt mo ti n) (i : Nat) (hi : i < n) :
    Calls Tryz.prog 45 #[.pointer (some ⟨xb, 0, none⟩), .int .i64 i] W fun e w' => e = .returned (.bool true) ∧ Fr [] W w' := by
  have c7 := h.c7
  have h0 : (0 : Int) ≤ (i : Int) := by omega
  have h1 : (i : Int) < (n : Int) := by omega
  clear h hi
  go_enter Tryz.func45, Tryz.ntmps45
  go_wp2
  go_ret
  exact ⟨rfl, Fr.refl _ _⟩
theorem known_s {W : World} {b xb pb : Nat} {last : Int} {rv : Value} {ev wt mo ti : Int} {n : Nat} (h : SC W b xb pb last rv ev wt mo ti n) (i : Nat) (hi : i < n) (p : Pe) (hp : PC W pb i p) :
    Calls Tryz.prog 26 #[.pointer (some ⟨xb, 0, none⟩), .int .i64 i] W fun e w' => e = .returned (.tuple #[.int .i64 p.k, .int .i64 0]) ∧ Fr [] W w' := by
  have HH : Hid (Calls Tryz.prog 45 #[.pointer (some ⟨xb, 0, none⟩), .int .i64 i] W fun e w' => e = .returned (.bool true) ∧ Fr [] W w') := hasPeer_yes h i hi
  have HC : Hid (∀ w', Fr [] W w' → w'.cell? ⟨xb, 7, none⟩ = some (.slice (some ⟨pb, 0, none⟩) n n) ∧ w'.cell? ⟨pb, i * 7, none⟩ = some (.int .i64 p.k)) := fun w' f =>
    ⟨(World.cell?_of_block (f.block xb (by have := World.block_lt_of_cell? _ _ h.c7; exact this) (by simp))).trans h.c7, (World.cell?_of_block (f.block pb (by have := World.block_lt_of_cell? _ _ hp.c0; exact this) (by simp))).trans hp.c0⟩
  have h0 : (0 : Int) ≤ (i : Int) := by omega
  have h1 : (i : Int) < (n : Int) := by omega
  clear h hi hp
  go_enter Tryz.func26, Tryz.ntmps26
  go_wp2_with (first
    | (go_at_call 45; refine HH.out.mono ?_; rintro e w1 ⟨rfl, f1⟩
       obtain ⟨c7, p0⟩ := HC.out w1 f1
       have H1 : Hid (Fr [] W w1) := f1
       clear f1))
  exact bodyPost_ret (results_tmp2 rfl _ _ _) rfl ⟨rfl, H1.out⟩
theorem isDue_any {W : World} {pb i : Nat} {p : Pe} (hp : PC W pb i p) (ti nw : Int) :
    Calls Tryz.prog 42 #[.pointer (some ⟨pb, i * 7, none⟩), .int .i64 ti, .int .i64 nw] W fun e w' => e = .returned (.bool (if p.aw = 0 then (decide (nw ≠ 0) && decide (nw ≠ p.k) && decide (nw ≠ p.g)) else decide (p.un ≤ ti))) ∧ Fr [] W w' := by
  have c0 := hp.c0
  have c2 := hp.c2
  have c4 := hp.c4
  have c5 := hp.c5
  clear hp
  by_cases ha : p.aw = 0
  · rw [if_pos ha]
    rw [ha] at c4
    go_enter Tryz.func42, Tryz.ntmps42
    go_wp2
    all_goals
      go_ret
      refine ⟨?_, Fr.refl _ _⟩
      by_cases h3 : nw = p.g <;> first
        | (simp_all [bne, decide_not]; done)
        | simp_all
  · rw [if_neg ha]
    have hae : (p.aw == 0) = false := by simpa using ha
    go_enter Tryz.func42, Tryz.ntmps42
    go_wp2
    all_goals
      go_ret
      exact ⟨rfl, Fr.refl _ _⟩
set_option maxHeartbeats 1600000 in
theorem patience_any {W : World} {b xb pb : Nat} {last : Int} {rv : Value} {ev wt mo ti : Int} {n : Nat} (h : SC W b xb pb last rv ev wt mo ti n) (tr : Int) (htr : 0 ≤ tr ∧ tr ≤ 1000000000) (hw : 1 ≤ wt ∧ wt ≤ mo ∧ mo ≤ 1000000) :
    Calls Tryz.prog 71 #[.pointer (some ⟨xb, 0, none⟩), .int .i64 tr] W fun e w' => ∃ r : Int, e = .returned (.int .i64 r) ∧ 1 ≤ r ∧ r ≤ mo ∧ Fr [] W w' := by
  have c4 := h.c4
  have c5 := h.c5
  clear h
  go_enter Tryz.func71, Tryz.ntmps71
  go_wp2
  go_loop [5, 11] (fun sec i => ∃ (k : Nat) (q : Int), (k : Int) ≤ tr ∧ i = .int .i64 k ∧ sec = .int .i64 q ∧ 1 ≤ q ∧ q ≤ mo) (fun _ i => tr.toNat - (intOf i).toNat)
  case atStart => exact ⟨0, wt, by omega, rfl, rfl, by omega, by omega⟩
  case round =>
    obtain ⟨k, q, hk, rfl, rfl, hq1, hq2⟩ := hrel
    have hm : mo ≤ 1000000 := hw.2.2
    have hq3 : q ≤ 1000000 := by omega
    have htt : tr ≤ 1000000000 := htr.2
    by_cases hlt : (k : Int) < tr
    · by_cases hge : mo ≤ q * 2
      · go_wp2
        go_ret
        exact ⟨mo, rfl, by omega, by omega, Fr.refl _ _⟩
      · go_wp2
        go_round
        case rel => exact ⟨k + 1, q * 2, by omega, by go_num, by go_num, by omega, by omega⟩
        case measure => simp [intOf]; omega
    · go_wp2
      go_ret
      exact ⟨q, rfl, by omega, by omega, Fr.refl _ _⟩
end Go.Proofs.YthdhegmlknpllabGreatDoor

/-
  The walks of node's Source.post (70) and ask (43).
-/
namespace Go.Proofs.YthdhegmlknpllabGreatDoor
open Go.RowKit Go.Maps Go.MuLone

/-- A peer that was posted a letter. -/
def Pe.post (p : Pe) (kk : Int) (un : Int) : Pe := { p with num := p.num + 1, aw := kk, un := un }

/-- A block of another type is written. -/
theorem SK.other {B b xb pb RB : Nat} {W : World} {s : Sto} {last : Int} {ra : Option Addr} {rs : List (Int × Int)} {rc : Nat} {ev wt mo ti : Int} {ps : List Pe} (h : SK B b xb pb RB W s last ra rs rc ev wt mo ti ps) {c : Nat} {t : TypeId} {vs : Array Value} (ha : W.heap[c]? = some (.cells vs t (0, 0))) (ht : (t ≠ 86 ∧ t ≠ 92 ∧ t ≠ 88 ∧ t ≠ 120 ∧ t ≠ 5) ∧ t ≠ 73 ∧ t ≠ 112 ∧ t ≠ 158) (j : Nat) (v : Value) : SK B b xb pb RB (W.setCell ⟨c, j, none⟩ v) s last ra rs rc ev wt mo ti ps := by
  have hf : Fr [c] W (W.setCell ⟨c, j, none⟩ v) := (Fr.refl _ _).setCell _ (Or.inl (by simp))
  refine ⟨h.rep.kept hf (fun k hk hm => ?_), ?_, ?_, own_fr h.ru hf (fun k hk hm => ?_)⟩
  · simp at hm
    subst hm
    exact tag_foot h.rep ha ht.1 hk
  · rw [heap_setCell_other _ _ _ _ (fun e => by
      have h1 := h.blk
      rw [e, ha] at h1
      simp at h1
      exact ht.2.1 h1.2)]
    exact h.blk
  · rw [heap_setCell_other _ _ _ _ (fun e => by
      have h1 := h.pr
      rw [e, ha] at h1
      simp at h1
      exact ht.2.2.1 h1.2)]
    exact h.pr
  · obtain ⟨_, cur, h4⟩ := own_tag h.ru hk
    simp at hm
    rw [hm, ha] at h4
    simp at h4
    exact ht.2.2.2 h4.2

set_option maxRecDepth 100000 in
set_option maxHeartbeats 3200000 in
theorem post_any (B b xb pb RB : Nat) (s : Sto) (last : Int) (ra : Option Addr) (rs : List (Int × Int)) (rc : Nat) (ev wt mo ti : Int) (ps : List Pe) (i : Nat) (p : Pe) (kk : Int) (st T : ByteArray) (sec : Int) (w : World) (h : SK B b xb pb RB w s last ra rs rc ev wt mo ti ps) (hi : i < ps.length) (hp : ps[i] = p) (hn : 0 ≤ p.num ∧ p.num ≤ 1000000000) (hsec : 0 ≤ sec ∧ sec ≤ 1000000) (hti : 0 ≤ ti ∧ ti ≤ 1073741824)
    (htx : ∀ W, Calls Tryz.prog 38 #[.agg #[.int .u8 kk, .int .i64 i, .int .i64 (p.num + 1), .string st, .int .i64 0]] W fun e w' => e = .returned (.string T) ∧ Fr [] W w') :
    Calls Tryz.prog 70 #[.pointer (some ⟨xb, 0, none⟩), .int .i64 i, .agg #[.int .u8 kk, .int .i64 0, .int .i64 0, .string st, .int .i64 0], .int .i64 sec] w fun e w' => e = .returned (.agg #[.int .i64 i, .string T]) ∧ SK B b xb pb RB w' s last ra rs rc ev wt mo ti (ps.set i (p.post kk (ti + sec))) ∧ Fr [pb] w w' := by
  have HH : Hid (SK B b xb pb RB w s last ra rs rc ev wt mo ti ps) := h
  have HT : Hid (∀ W, Calls Tryz.prog 38 #[.agg #[.int .u8 kk, .int .i64 i, .int .i64 (p.num + 1), .string st, .int .i64 0]] W fun e w' => e = .returned (.string T) ∧ Fr [] W w') := htx
  obtain ⟨n, hn'⟩ : ∃ n, ps.length = n := ⟨_, rfl⟩
  have HI : Hid (∃ h : i < ps.length, ps[i] = p) := ⟨hi, hp⟩
  obtain ⟨w0, hw0⟩ : ∃ w0, w.alloc (.cells #[.int .u8 kk, .int .i64 0, .int .i64 0, .string st, .int .i64 0] 100) = w0 := ⟨_, rfl⟩
  obtain ⟨bx, hbx⟩ : ∃ bx, w.heap.size = bx := ⟨_, rfl⟩
  obtain ⟨w1, hw1⟩ : ∃ w1, w0.alloc (.cells #[.int .i64 0, .string ⟨#[]⟩] 115) = w1 := ⟨_, rfl⟩
  obtain ⟨rb, hrb⟩ : ∃ rb, w0.heap.size = rb := ⟨_, rfl⟩
  have F0 : Fr [] w w1 := by rw [← hw1, ← hw0]; exact ((Fr.refl _ _).alloc _).alloc _
  have S0 : SK B b xb pb RB w1 s last ra rs rc ev wt mo ti ps := h.same F0
  have n00 : w0.heap[bx]? = some (.cells #[.int .u8 kk, .int .i64 0, .int .i64 0, .string st, .int .i64 0] 100 (0, 0)) := by rw [← hw0, ← hbx]; exact heap_alloc_new w _
  have n0 : w1.heap[bx]? = some (.cells #[.int .u8 kk, .int .i64 0, .int .i64 0, .string st, .int .i64 0] 100 (0, 0)) := by rw [← hw1, Below.heap_alloc _ _ _ (Array.getElem?_eq_some_iff.1 n00).1]; exact n00
  have n1 : w1.heap[rb]? = some (.cells #[.int .i64 0, .string ⟨#[]⟩] 115 (0, 0)) := by rw [← hw1, ← hrb]; exact heap_alloc_new w0 _
  have c7 := S0.sc.c7
  have c6 := S0.sc.c6
  have P := S0.pc i hi
  rw [hp] at P
  rw [hn'] at c7
  have p3 := P.c3
  have p4 := P.c4
  have p5 := P.c5
  have z3 : w1.frozen? ⟨pb, i * 7 + 3, none⟩ = false := froz_of S0.pr _
  have z4 : w1.frozen? ⟨pb, i * 7 + 4, none⟩ = false := froz_of S0.pr _
  have z5 : w1.frozen? ⟨pb, i * 7 + 5, none⟩ = false := froz_of S0.pr _
  have q0 : w1.cell? ⟨bx, 0, none⟩ = some (.int .u8 kk) := by rw [cell_of n0]; rfl
  have q1 : w1.cell? ⟨bx, 1, none⟩ = some (.int .i64 0) := by rw [cell_of n0]; rfl
  have q2 : w1.cell? ⟨bx, 2, none⟩ = some (.int .i64 0) := by rw [cell_of n0]; rfl
  have q3 : w1.cell? ⟨bx, 3, none⟩ = some (.string st) := by rw [cell_of n0]; rfl
  have q4 : w1.cell? ⟨bx, 4, none⟩ = some (.int .i64 0) := by rw [cell_of n0]; rfl
  have y1 : w1.frozen? ⟨bx, 1, none⟩ = false := froz_of n0 _
  have y2 : w1.frozen? ⟨bx, 2, none⟩ = false := froz_of n0 _
  have hne : bx ≠ pb := fun e => by
    rw [e, S0.pr] at n0
    simp at n0
  have hne2 : pb ≠ bx := Ne.symm hne
  have hxp : xb ≠ pb := S0.ne
  have hxb : xb ≠ bx := fun e => by
    rw [← e, S0.blk] at n0
    simp at n0
  have hrp : rb ≠ pb := fun e => by
    rw [e, S0.pr] at n1
    simp at n1
  have hrx : rb ≠ bx := fun e => by
    rw [e, n0] at n1
    simp at n1
  have hltz : (i : Int) < (n : Int) := by omega
  have H0 : Hid (SK B b xb pb RB w1 s last ra rs rc ev wt mo ti ps ∧ w1.heap[bx]? = some (.cells #[.int .u8 kk, .int .i64 0, .int .i64 0, .string st, .int .i64 0] 100 (0, 0)) ∧ w1.heap[rb]? = some (.cells #[.int .i64 0, .string ⟨#[]⟩] 115 (0, 0)) ∧ Fr [] w w1 ∧ w.heap.size ≤ bx ∧ w.heap.size ≤ rb ∧ rb ≠ pb ∧ rb ≠ bx) := ⟨S0, n0, n1, F0, by omega, by rw [← hrb, ← hw0]; simp, hrp, hrx⟩
  have hn1 := hn.1
  have hn2 := hn.2
  have hs1 := hsec.1
  have hs2 := hsec.2
  have ht1 := hti.1
  have ht2 := hti.2
  clear h htx hn hsec hti S0 P n0 n00 n1 F0 hi hp hn'
  go_enter Tryz.func70, Tryz.ntmps70
  go_wp2
  obtain ⟨W2, hW2⟩ : ∃ W2, ((w1.setCell ⟨pb, i * 7 + 3, none⟩ (.int .i64 (p.num + 1))).setCell ⟨pb, i * 7 + 4, none⟩ (.int .u8 kk)).setCell ⟨pb, i * 7 + 5, none⟩ (.int .i64 (ti + sec)) = W2 := ⟨_, rfl⟩
  have H2 : Hid (SK B b xb pb RB W2 s last ra rs rc ev wt mo ti (ps.set i (p.post kk (ti + sec))) ∧ W2.heap[bx]? = some (.cells #[.int .u8 kk, .int .i64 0, .int .i64 0, .string st, .int .i64 0] 100 (0, 0)) ∧ W2.heap[rb]? = some (.cells #[.int .i64 0, .string ⟨#[]⟩] 115 (0, 0)) ∧ Fr [pb] w W2) := by
    obtain ⟨hi, hp⟩ := HI.out
    refine ⟨?_, ?_, ?_, ?_⟩
    · have s1 := H0.out.1.setP i 3 (.int .i64 (p.num + 1)) { p with num := p.num + 1 } hi (by omega) (by rw [hp]; rfl)
      have s2 := s1.setP i 4 (.int .u8 kk) { p with num := p.num + 1, aw := kk } (by rw [List.length_set]; exact hi) (by omega) (by rw [List.getElem_set_self]; rfl)
      have s3 := s2.setP i 5 (.int .i64 (ti + sec)) (p.post kk (ti + sec)) (by rw [List.length_set, List.length_set]; exact hi) (by omega) (by rw [List.getElem_set_self]; rfl)
      rw [hW2, List.set_set, List.set_set] at s3
      exact s3
    · rw [← hW2, heap_setCell_other _ _ _ _ hne, heap_setCell_other _ _ _ _ hne, heap_setCell_other _ _ _ _ hne]
      exact H0.out.2.1
    · rw [← hW2, heap_setCell_other _ _ _ _ hrp, heap_setCell_other _ _ _ _ hrp, heap_setCell_other _ _ _ _ hrp]
      exact H0.out.2.2.1
    · rw [← hW2]
      exact ((((Fr.refl [pb] w).trans H0.out.2.2.2.1 (by simp)).setCell _ (Or.inl (by simp))).setCell _ (Or.inl (by simp))).setCell _ (Or.inl (by simp))
  have e3 : W2.cell? ⟨pb, i * 7 + 3, none⟩ = some (.int .i64 (p.num + 1)) := by
    have := (H2.out.1.pc i (by rw [List.length_set]; exact HI.out.1)).c3
    rw [List.getElem_set_self] at this
    exact this
  rw [hW2]
  clear hW2 p3 p4 p5 z3 z4 z5 q0 q1 q2 q3 q4 y1 y2 c6 c7 hw1 hw0 hbx hrb
  have q0 : W2.cell? ⟨bx, 0, none⟩ = some (.int .u8 kk) := by rw [cell_of H2.out.2.1]; rfl
  have q1 : W2.cell? ⟨bx, 1, none⟩ = some (.int .i64 0) := by rw [cell_of H2.out.2.1]; rfl
  have q2 : W2.cell? ⟨bx, 2, none⟩ = some (.int .i64 0) := by rw [cell_of H2.out.2.1]; rfl
  have q3 : W2.cell? ⟨bx, 3, none⟩ = some (.string st) := by rw [cell_of H2.out.2.1]; rfl
  have q4 : W2.cell? ⟨bx, 4, none⟩ = some (.int .i64 0) := by rw [cell_of H2.out.2.1]; rfl
  have y1 : W2.frozen? ⟨bx, 1, none⟩ = false := froz_of H2.out.2.1 _
  have y2 : W2.frozen? ⟨bx, 2, none⟩ = false := froz_of H2.out.2.1 _
  have hbp : pb ≠ bx := hne2
  have H3 : Hid (∀ X, X = (W2.setCell ⟨bx, 1, none⟩ (.int .i64 i)).setCell ⟨bx, 2, none⟩ (.int .i64 (p.num + 1)) → SK B b xb pb RB X s last ra rs rc ev wt mo ti (ps.set i (p.post kk (ti + sec))) ∧ X.heap[rb]? = some (.cells #[.int .i64 0, .string ⟨#[]⟩] 115 (0, 0)) ∧ Fr [pb] w X) := by
    rintro X rfl
    have hf : Fr [bx] W2 ((W2.setCell ⟨bx, 1, none⟩ (.int .i64 i)).setCell ⟨bx, 2, none⟩ (.int .i64 (p.num + 1))) := ((Fr.refl _ _).setCell _ (Or.inl (by simp))).setCell _ (Or.inl (by simp))
    have hk := H2.out.1
    refine ⟨⟨hk.rep.kept hf (fun k hk' hm => ?_), ?_, ?_, own_fr hk.ru hf (fun k hk' hm => ?_)⟩, ?_, ?_⟩
    · simp at hm
      subst hm
      exact tag_foot hk.rep H2.out.2.1 (by decide) hk'
    · rw [heap_setCell_other _ _ _ _ hxb, heap_setCell_other _ _ _ _ hxb]
      exact hk.blk
    · rw [heap_setCell_other _ _ _ _ hbp, heap_setCell_other _ _ _ _ hbp]
      exact hk.pr
    · obtain ⟨_, cur, h4⟩ := own_tag hk.ru hk'
      simp at hm
      rw [hm, H2.out.2.1] at h4
      simp at h4
    · rw [heap_setCell_other _ _ _ _ hrx, heap_setCell_other _ _ _ _ hrx]
      exact H2.out.2.2.1
    · exact (H2.out.2.2.2.setCell _ (Or.inr H0.out.2.2.2.2.1)).setCell _ (Or.inr H0.out.2.2.2.2.1)
  go_region
  go_wp2_with (first
    | (go_at_call 38; refine (HT.out _).mono ?_; rintro e w4 ⟨rfl, f4⟩
       have f5 : Fr [] ((W2.setCell ⟨bx, 1, none⟩ (.int .i64 i)).setCell ⟨bx, 2, none⟩ (.int .i64 (p.num + 1))) w4 := ((Fr.refl _ _).drew).trans f4 (by simp)
       obtain ⟨g1, g2, g3⟩ := H3.out _ rfl
       have n4 : w4.heap[rb]? = some (.cells #[.int .i64 0, .string ⟨#[]⟩] 115 (0, 0)) := by rw [f5.block rb (Array.getElem?_eq_some_iff.1 g2).1 (by simp)]; exact g2
       have H4 : Hid (SK B b xb pb RB w4 s last ra rs rc ev wt mo ti (ps.set i (p.post kk (ti + sec))) ∧ w4.heap[rb]? = some (.cells #[.int .i64 0, .string ⟨#[]⟩] 115 (0, 0)) ∧ Fr [pb] w w4) := ⟨g1.same f5, n4, g3.trans f5 (by simp)⟩
       have r0 : w4.cell? ⟨rb, 0, none⟩ = some (.int .i64 0) := by rw [cell_of n4]; rfl
       have r1 : w4.cell? ⟨rb, 1, none⟩ = some (.string ⟨#[]⟩) := by rw [cell_of n4]; rfl
       have u0 : w4.frozen? ⟨rb, 0, none⟩ = false := froz_of n4 _
       have u1 : w4.frozen? ⟨rb, 1, none⟩ = false := froz_of n4 _
       clear f4 f5 g1 g2 g3 n4))
  refine bodyPost_ret (v := .agg #[.int .i64 i, .string T]) ?_ rfl ⟨rfl, ?_, ?_⟩
  · simp [results, Tryz.results70, go_sem]
    go_simp
  · exact (H4.out.1.other H4.out.2.1 (by decide) 0 _).other (vs := #[.int .i64 i, .string ⟨#[]⟩]) (t := 115) (by rw [heap_setCell_same _ _ _ _ _ _ H4.out.2.1]; rfl) (by decide) 1 _
  · exact (H4.out.2.2.setCell _ (Or.inr H0.out.2.2.2.2.2.1)).setCell _ (Or.inr H0.out.2.2.2.2.2.1)
end Go.Proofs.YthdhegmlknpllabGreatDoor

/-
  The walk of node's Source.ask (43).
-/
namespace Go.Proofs.YthdhegmlknpllabGreatDoor
open Go.RowKit Go.Maps Go.MuLone

/-- A peer that is asked. -/
def Pe.ask (p : Pe) (un : Int) : Pe := Pe.post { p with tr := if p.aw = 0 then 0 else p.tr + 1 } 65 un

set_option maxRecDepth 100000 in
set_option maxHeartbeats 3200000 in
theorem ask_any (B b xb pb RB : Nat) (s : Sto) (last : Int) (ra : Option Addr) (rs : List (Int × Int)) (rc : Nat) (ev wt mo ti : Int) (ps : List Pe) (i : Nat) (p : Pe) (w : World) (h : SK B b xb pb RB w s last ra rs rc ev wt mo ti ps) (hi : i < ps.length) (hp : ps[i] = p) (hn : 0 ≤ p.num ∧ p.num ≤ 1000000000) (htr : 0 ≤ p.tr ∧ p.tr ≤ 100000000) (hw : 1 ≤ wt ∧ wt ≤ mo ∧ mo ≤ 1000000) (hti : 0 ≤ ti ∧ ti ≤ 1073741824) :
    Calls Tryz.prog 43 #[.pointer (some ⟨xb, 0, none⟩), .int .i64 i] w fun e w' => e = .returned (.agg #[.int .i64 i, .string (ofL (lhead 65 i (p.num + 1)))]) ∧ ∃ un : Int, ti + 1 ≤ un ∧ un ≤ ti + mo ∧ SK B b xb pb RB w' s last ra rs rc ev wt mo ti (ps.set i (p.ask un)) ∧ Fr [pb] w w' := by
  obtain ⟨n, hn'⟩ : ∃ n, ps.length = n := ⟨_, rfl⟩
  have HI : Hid (∃ h : i < ps.length, ps[i] = p) := ⟨hi, hp⟩
  obtain ⟨w1, hw1⟩ : ∃ w1, w.alloc (.cells #[.int .i64 0, .string ⟨#[]⟩] 115) = w1 := ⟨_, rfl⟩
  obtain ⟨rb, hrb⟩ : ∃ rb, w.heap.size = rb := ⟨_, rfl⟩
  have F0 : Fr [] w w1 := by rw [← hw1]; exact (Fr.refl _ _).alloc _
  have S0 : SK B b xb pb RB w1 s last ra rs rc ev wt mo ti ps := h.same F0
  have n1 : w1.heap[rb]? = some (.cells #[.int .i64 0, .string ⟨#[]⟩] 115 (0, 0)) := by rw [← hw1, ← hrb]; exact heap_alloc_new w _
  have c7 := S0.sc.c7
  have P := S0.pc i hi
  rw [hp] at P
  rw [hn'] at c7
  have p4 := P.c4
  have p6 := P.c6
  have z6 : w1.frozen? ⟨pb, i * 7 + 6, none⟩ = false := froz_of S0.pr _
  obtain ⟨tr2, htr2⟩ : ∃ tr2 : Int, (if p.aw = 0 then 0 else p.tr + 1) = tr2 := ⟨_, rfl⟩
  obtain ⟨W2, hW2⟩ : ∃ W2, w1.setCell ⟨pb, i * 7 + 6, none⟩ (.int .i64 tr2) = W2 := ⟨_, rfl⟩
  have htr3 : 0 ≤ tr2 ∧ tr2 ≤ 1000000000 := by
    rw [← htr2]
    split <;> omega
  have hrp : rb ≠ pb := fun e => by
    rw [e, S0.pr] at n1
    simp at n1
  have hxp : xb ≠ pb := S0.ne
  have H2 : Hid (SK B b xb pb RB W2 s last ra rs rc ev wt mo ti (ps.set i { p with tr := tr2 }) ∧ W2.heap[rb]? = some (.cells #[.int .i64 0, .string ⟨#[]⟩] 115 (0, 0)) ∧ Fr [pb] w W2 ∧ w.heap.size ≤ rb ∧ rb ≠ pb) := by
    refine ⟨?_, ?_, ?_, by omega, hrp⟩
    · rw [← hW2]
      exact S0.setP i 6 _ _ hi (by omega) (by rw [hp]; rfl)
    · rw [← hW2, heap_setCell_other _ _ _ _ hrp]
      exact n1
    · rw [← hW2]
      exact ((Fr.refl [pb] w).trans F0 (by simp)).setCell _ (Or.inl (by simp))
  have HPa : Hid (Calls Tryz.prog 71 #[.pointer (some ⟨xb, 0, none⟩), .int .i64 tr2] W2 fun e w' => ∃ r : Int, e = .returned (.int .i64 r) ∧ 1 ≤ r ∧ r ≤ mo ∧ Fr [] W2 w') := patience_any H2.out.1.sc tr2 htr3 hw
  have HPo : Hid (∀ W sec, SK B b xb pb RB W s last ra rs rc ev wt mo ti (ps.set i { p with tr := tr2 }) → 0 ≤ sec ∧ sec ≤ 1000000 → Calls Tryz.prog 70 #[.pointer (some ⟨xb, 0, none⟩), .int .i64 i, .agg #[.int .u8 65, .int .i64 0, .int .i64 0, .string ⟨#[]⟩, .int .i64 0], .int .i64 sec] W fun e w' => e = .returned (.agg #[.int .i64 i, .string (ofL (lhead 65 i (p.num + 1)))]) ∧ SK B b xb pb RB w' s last ra rs rc ev wt mo ti (ps.set i (p.ask (ti + sec))) ∧ Fr [pb] W w') := fun W sec hW hs => by
    have := post_any B b xb pb RB s last ra rs rc ev wt mo ti (ps.set i { p with tr := tr2 }) i { p with tr := tr2 } 65 ⟨#[]⟩ (ofL (lhead 65 i (p.num + 1))) sec W hW (by rw [List.length_set]; exact hi) (by rw [List.getElem_set_self]) hn hs hti (fun W' => text_ask 65 i (p.num + 1) ⟨#[]⟩ 0 W' rfl rfl rfl)
    rw [List.set_set] at this
    unfold Pe.ask
    rw [htr2]
    exact this
  have e6 : W2.cell? ⟨pb, i * 7 + 6, none⟩ = some (.int .i64 tr2) := by
    have := (H2.out.1.pc i (by rw [List.length_set]; exact hi)).c6
    rw [List.getElem_set_self] at this
    exact this
  have hltz : (i : Int) < (n : Int) := by omega
  have hm : mo ≤ 1000000 := hw.2.2
  have ht1 := htr.1
  have ht2 := htr.2
  obtain ⟨T, hT⟩ : ∃ T, ofL (lhead 65 i (p.num + 1)) = T := ⟨_, rfl⟩
  rw [hT] at HPo ⊢
  clear h hn htr hw hti S0 P n1 F0 hi hp hn' htr3 hT
  by_cases ha : p.aw = 0
  · rw [ha] at p4
    rw [if_pos ha] at htr2
    subst htr2
    go_enter Tryz.func43, Tryz.ntmps43
    go_wp2_with (first
      | (go_at_call 70; refine (HPo.out _ _ H3.out.1 ⟨by omega, by omega⟩).mono ?_; rintro e w4 ⟨rfl, k4, f4⟩
         have n4 : w4.heap[rb]? = some (.cells #[.int .i64 0, .string ⟨#[]⟩] 115 (0, 0)) := by rw [f4.block rb (Array.getElem?_eq_some_iff.1 H3.out.2.2).1 (by simpa using hrp)]; exact H3.out.2.2
         have H4 : Hid (SK B b xb pb RB w4 s last ra rs rc ev wt mo ti (ps.set i (p.ask (ti + r))) ∧ w4.heap[rb]? = some (.cells #[.int .i64 0, .string ⟨#[]⟩] 115 (0, 0)) ∧ Fr [pb] w w4) := ⟨k4, n4, H3.out.2.1.trans f4 (fun k hk => Or.inl hk)⟩
         have r0 : w4.cell? ⟨rb, 0, none⟩ = some (.int .i64 0) := by rw [cell_of n4]; rfl
         have r1 : w4.cell? ⟨rb, 1, none⟩ = some (.string ⟨#[]⟩) := by rw [cell_of n4]; rfl
         have u0 : w4.frozen? ⟨rb, 0, none⟩ = false := froz_of n4 _
         have u1 : w4.frozen? ⟨rb, 1, none⟩ = false := froz_of n4 _
         clear k4 n4 f4)
      | (go_at_call 71; refine HPa.out.mono ?_; rintro e w3 ⟨r, rfl, hr1, hr2, f3⟩
         have H3 : Hid (SK B b xb pb RB w3 s last ra rs rc ev wt mo ti (ps.set i { p with tr := 0 }) ∧ Fr [pb] w w3 ∧ w3.heap[rb]? = some (.cells #[.int .i64 0, .string ⟨#[]⟩] 115 (0, 0))) := ⟨H2.out.1.same f3, H2.out.2.2.1.trans f3 (by simp), by rw [f3.block rb (Array.getElem?_eq_some_iff.1 H2.out.2.1).1 (by simp)]; exact H2.out.2.1⟩
         clear f3))
    refine bodyPost_ret (v := .agg #[.int .i64 i, .string T]) ?_ rfl ⟨rfl, ti + r, by omega, by omega, ?_, ?_⟩
    · simp [results, Tryz.results43, go_sem]
      go_simp
    · exact (H4.out.1.other H4.out.2.1 (by decide) 0 _).other (vs := #[.int .i64 i, .string ⟨#[]⟩]) (t := 115) (by rw [heap_setCell_same _ _ _ _ _ _ H4.out.2.1]; rfl) (by decide) 1 _
    · exact (H4.out.2.2.setCell _ (Or.inr H2.out.2.2.2.1)).setCell _ (Or.inr H2.out.2.2.2.1)
  · rw [if_neg ha] at htr2
    subst htr2
    have hae : (p.aw == 0) = false := by simpa using ha
    have haz : (p.aw != 0) = true := by simpa using ha
    go_enter Tryz.func43, Tryz.ntmps43
    go_wp2_with (first
      | (go_at_call 70; refine (HPo.out _ _ H3.out.1 ⟨by omega, by omega⟩).mono ?_; rintro e w4 ⟨rfl, k4, f4⟩
         have n4 : w4.heap[rb]? = some (.cells #[.int .i64 0, .string ⟨#[]⟩] 115 (0, 0)) := by rw [f4.block rb (Array.getElem?_eq_some_iff.1 H3.out.2.2).1 (by simpa using hrp)]; exact H3.out.2.2
         have H4 : Hid (SK B b xb pb RB w4 s last ra rs rc ev wt mo ti (ps.set i (p.ask (ti + r))) ∧ w4.heap[rb]? = some (.cells #[.int .i64 0, .string ⟨#[]⟩] 115 (0, 0)) ∧ Fr [pb] w w4) := ⟨k4, n4, H3.out.2.1.trans f4 (fun k hk => Or.inl hk)⟩
         have r0 : w4.cell? ⟨rb, 0, none⟩ = some (.int .i64 0) := by rw [cell_of n4]; rfl
         have r1 : w4.cell? ⟨rb, 1, none⟩ = some (.string ⟨#[]⟩) := by rw [cell_of n4]; rfl
         have u0 : w4.frozen? ⟨rb, 0, none⟩ = false := froz_of n4 _
         have u1 : w4.frozen? ⟨rb, 1, none⟩ = false := froz_of n4 _
         clear k4 n4 f4)
      | (go_at_call 71; refine HPa.out.mono ?_; rintro e w3 ⟨r, rfl, hr1, hr2, f3⟩
         have H3 : Hid (SK B b xb pb RB w3 s last ra rs rc ev wt mo ti (ps.set i { p with tr := p.tr + 1 }) ∧ Fr [pb] w w3 ∧ w3.heap[rb]? = some (.cells #[.int .i64 0, .string ⟨#[]⟩] 115 (0, 0))) := ⟨H2.out.1.same f3, H2.out.2.2.1.trans f3 (by simp), by rw [f3.block rb (Array.getElem?_eq_some_iff.1 H2.out.2.1).1 (by simp)]; exact H2.out.2.1⟩
         clear f3))
    refine bodyPost_ret (v := .agg #[.int .i64 i, .string T]) ?_ rfl ⟨rfl, ti + r, by omega, by omega, ?_, ?_⟩
    · simp [results, Tryz.results43, go_sem]
      go_simp
    · exact (H4.out.1.other H4.out.2.1 (by decide) 0 _).other (vs := #[.int .i64 i, .string ⟨#[]⟩]) (t := 115) (by rw [heap_setCell_same _ _ _ _ _ _ H4.out.2.1]; rfl) (by decide) 1 _
    · exact (H4.out.2.2.setCell _ (Or.inr H2.out.2.2.2.1)).setCell _ (Or.inr H2.out.2.2.2.1)
end Go.Proofs.YthdhegmlknpllabGreatDoor
