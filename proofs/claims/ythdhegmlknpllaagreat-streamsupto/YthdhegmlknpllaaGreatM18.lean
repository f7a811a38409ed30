import Derived.Test.YthdhegmlknpllaaGreatM17
/-
  A side in memory: the program's store and the reference's beside each other; each call on both.
-/
namespace Go.Proofs.YthdhegmlknpllaaGreat
open Go.RowKit Go.Maps Go.MuLone

section
variable {B : Nat} {w w1 w2 W : World} {db b rb : Nat} {s s' : Sto} {r r' : RSto} {q : Nat}
theorem foot_tag {z : Int} (h : Rep B w b z s) {k : Nat} (hk : k ∈ foot b s) {cur : Array Value} {t : TypeId} {fr : Nat × Nat} (e : w.heap[k]? = some (.cells cur t fr)) : t = 76 ∨ t = 112 ∨ t = 119 ∨ t = 125 ∨ t = 5 := by
  simp only [foot, List.mem_append, List.mem_cons, List.not_mem_nil, or_false, Option.mem_toList] at hk
  rcases hk with (((rfl | rfl | rfl) | h1) | h1) | h1
  · have h2 := h.blk
    rw [e] at h2
    simp [Sto.blk] at h2
    exact Or.inl h2.2.1
  · have h2 := h.vol
    rw [e] at h2
    simp at h2
    exact Or.inr (Or.inl h2.2.1)
  · obtain ⟨es, c, h1⟩ := h.th.at
    rw [h1] at e
    simp at e
  · obtain ⟨_, cur', h2⟩ := own_tag h.ss h1
    rw [h2] at e
    simp at e
    exact Or.inr (Or.inr (Or.inl e.2.1.symm))
  · obtain ⟨_, cur', h2⟩ := own_tag h.ms h1
    rw [h2] at e
    simp at e
    exact Or.inr (Or.inr (Or.inr (Or.inl e.2.1.symm)))
  · obtain ⟨_, cur', h2⟩ := own_tag h.lg h1
    rw [h2] at e
    simp at e
    exact Or.inr (Or.inr (Or.inr (Or.inr e.2.1.symm)))
theorem rfoot_tag (h : RRep B w rb r) {k : Nat} (hk : k ∈ rfoot rb r) {cur : Array Value} {t : TypeId} {fr : Nat × Nat} (e : w.heap[k]? = some (.cells cur t fr)) : t = 86 ∨ t = 117 ∨ t = 129 := by
  simp only [rfoot, List.mem_append, List.mem_cons, List.not_mem_nil, or_false, Option.mem_toList] at hk
  rcases hk with (rfl | h1) | h1
  · have h2 := h.blk
    rw [e] at h2
    simp at h2
    exact Or.inl h2.2.1
  · obtain ⟨_, cur', h2⟩ := own_tag h.sh h1
    rw [h2] at e
    simp at e
    exact Or.inr (Or.inl e.2.1.symm)
  · obtain ⟨_, cur', h2⟩ := own_tag h.ms h1
    rw [h2] at e
    simp at e
    exact Or.inr (Or.inr e.2.1.symm)

/-- A side's block. -/
def sdO (b rb : Nat) : Obj := .cells #[.pointer (some ⟨b, 0, none⟩), .pointer (some ⟨rb, 0, none⟩), .slice none 0 0] 53 (0, 0)
structure SD (B : Nat) (w : World) (db b rb : Nat) (s : Sto) (r : RSto) : Prop where
  blk : w.heap[db]? = some (sdO b rb)
  rep : Rep B w b 0 s
  rrep : RRep B w rb r
  dis : ∀ k ∈ foot b s, k ∉ rfoot rb r
  hdb : B ≤ db
def sft (b rb : Nat) (s : Sto) (r : RSto) : List Nat := foot b s ++ rfoot rb r
/-- A block of another type is none of a side's stores. -/
theorem sft_no (rp : Rep B w b 0 s) (rr : RRep B w rb r) {k : Nat} {cur : Array Value} {t : TypeId} (e : w.heap[k]? = some (.cells cur t (0, 0))) (ht : t ≠ 76 ∧ t ≠ 112 ∧ t ≠ 119 ∧ t ≠ 125 ∧ t ≠ 5 ∧ t ≠ 86 ∧ t ≠ 117 ∧ t ≠ 129) : k ∉ sft b rb s r := fun hm => by
  rcases List.mem_append.1 hm with hm | hm
  · rcases foot_tag rp hm e with h | h | h | h | h
    · exact ht.1 h
    · exact ht.2.1 h
    · exact ht.2.2.1 h
    · exact ht.2.2.2.1 h
    · exact ht.2.2.2.2.1 h
  · rcases rfoot_tag rr hm e with h | h | h
    · exact ht.2.2.2.2.2.1 h
    · exact ht.2.2.2.2.2.2.1 h
    · exact ht.2.2.2.2.2.2.2 h
theorem SD.no (h : SD B w db b rb s r) {k : Nat} {cur : Array Value} {t : TypeId} (e : w.heap[k]? = some (.cells cur t (0, 0))) (ht : t ≠ 76 ∧ t ≠ 112 ∧ t ≠ 119 ∧ t ≠ 125 ∧ t ≠ 5 ∧ t ≠ 86 ∧ t ≠ 117 ∧ t ≠ 129) : k ∉ sft b rb s r := sft_no h.rep h.rrep e ht
theorem SD.ndb (h : SD B w db b rb s r) : db ∉ sft b rb s r := h.no h.blk (by decide)
theorem SD.lt (h : SD B w db b rb s r) : ∀ k ∈ sft b rb s r, B ≤ k ∧ k < w.heap.size := fun k hk => by
  rcases List.mem_append.1 hk with hk | hk
  · exact h.rep.lt k hk
  · exact h.rrep.lt k hk
/-- Others' calls leave a side as it is. -/
theorem SD.fr (h : SD B w db b rb s r) {F : List Nat} (hf : Fr F w W) (hn : ∀ k ∈ sft b rb s r, k ∉ F) (hd : db ∉ F) : SD B W db b rb s r :=
  ⟨by rw [hf.block db (Array.getElem?_eq_some_iff.1 h.blk).1 hd]; exact h.blk, h.rep.kept hf (fun k hk => hn k (List.mem_append_left _ hk)), h.rrep.kept hf (fun k hk => hn k (List.mem_append_right _ hk)), h.dis, h.hdb⟩
theorem SD.same (h : SD B w db b rb s r) (hf : Fr [] w W) : SD B W db b rb s r := h.fr hf (by simp) (by simp)

/-- A side behind a call on both. -/
def SN (B : Nat) (w w' : World) (db b rb : Nat) (s : Sto) (r : RSto) (q : Nat) : Prop :=
  ∃ s' r', SD B w' db b rb s' r' ∧ Sim s' r' (q + 1) ∧ Fr (sft b rb s r) w w' ∧ ∀ k ∈ sft b rb s' r', k ∈ sft b rb s r ∨ w.heap.size ≤ k
/-- The program's call is done; then the reference's. -/
theorem SD.pair (h : SD B w db b rb s r) (rp : Rep B w1 b 0 s') (f1 : Fr (foot b s) w w1) (g1 : ∀ k ∈ foot b s', k ∈ foot b s ∨ w.heap.size ≤ k) {f : Nat} {args : Array Value} {v : Value}
    (hr : ∀ W, RRep B W rb r → Calls Tryz.prog f args W fun e w2 => e = .returned v ∧ ∃ r', RRep B w2 rb r' ∧ Fr (rfoot rb r) W w2 ∧ (∀ k ∈ rfoot rb r', k ∈ rfoot rb r ∨ W.heap.size ≤ k) ∧ Sim s' r' (q + 1)) :
    (w1.heap[db]? = some (sdO b rb) ∧ Fr (sft b rb s r) w w1) ∧ ∀ W, Fr [] w1 W → Calls Tryz.prog f args W fun e w2 => e = .returned v ∧ SN B w w2 db b rb s r q := by
  have hd1 : db ∉ foot b s := fun hm => h.ndb (List.mem_append_left _ hm)
  have b1 : w1.heap[db]? = some (sdO b rb) := by rw [f1.block db (Array.getElem?_eq_some_iff.1 h.blk).1 hd1]; exact h.blk
  refine ⟨⟨b1, f1.mono (fun k hk => List.mem_append_left _ hk)⟩, fun W hW => ?_⟩
  have rr1 : RRep B w1 rb r := h.rrep.kept f1 (fun k hk hm => h.dis k hm hk)
  have rrW := rr1.kept0 hW
  refine (hr W rrW).mono ?_
  rintro e w2 ⟨he, r', rr', f2, g2, m⟩
  have dis1 : ∀ k ∈ foot b s', k ∉ rfoot rb r := fun k hk hm => by
    rcases g1 k hk with h1 | h1
    · exact h.dis k h1 hm
    · have := (h.rrep.lt k hm).2
      omega
  have rpW := rp.kept0 hW
  have rp2 : Rep B w2 b 0 s' := rpW.kept f2 dis1
  have bW : W.heap[db]? = some (sdO b rb) := by rw [hW.block db (Array.getElem?_eq_some_iff.1 b1).1 (by simp)]; exact b1
  have b2 : w2.heap[db]? = some (sdO b rb) := by
    rw [f2.block db (Array.getElem?_eq_some_iff.1 bW).1 (fun hm => h.ndb (List.mem_append_right _ hm))]
    exact bW
  have hf : Fr (sft b rb s r) w w2 := ((f1.mono (fun k hk => List.mem_append_left _ hk)).trans hW (by simp)).trans f2 (fun k hk => Or.inl (List.mem_append_right _ hk))
  refine ⟨he, s', r', ⟨b2, rp2, rr', fun k hk hm => ?_, h.hdb⟩, m, hf, fun k hk => ?_⟩
  · rcases g2 k hm with h1 | h1
    · exact dis1 k hk h1
    · have := (rpW.lt k hk).2
      omega
  · rcases List.mem_append.1 hk with hk | hk
    · rcases g1 k hk with h1 | h1
      · exact Or.inl (List.mem_append_left _ h1)
      · exact Or.inr h1
    · rcases g2 k hk with h1 | h1
      · exact Or.inl (List.mem_append_right _ h1)
      · exact Or.inr (Nat.le_trans (Nat.le_trans f1.size hW.size) h1)

/-- What a call on both answers: both the same. -/
def PC {α : Type} (f : α → Value) (B : Nat) (w : World) (db b rb : Nat) (s : Sto) (r : RSto) (q fr : Nat) (args : Array Value) (e : Ending) (w1 : World) : Prop :=
  ∃ a : α, e = .returned (f a) ∧ (w1.heap[db]? = some (sdO b rb) ∧ Fr (sft b rb s r) w w1) ∧ ∀ W, Fr [] w1 W → Calls Tryz.prog fr args W fun e2 w2 => e2 = .returned (f a) ∧ SN B w w2 db b rb s r q
def fC (c : Int) : Value := .int .i64 c
def fT (p : ByteArray × Int) : Value := .tuple #[.string p.1, .int .i64 p.2]
def fI (p : Int × Int) : Value := .tuple #[.int .i64 p.1, .int .i64 p.2]

/-- The reference's call changes nothing. -/
theorem still (h : Sim s r q) {v : Value} {f : Nat} {args : Array Value} (hc : ∀ W, RRep B W rb r → Calls Tryz.prog f args W fun e w2 => e = .returned v ∧ w2 = W) : ∀ W, RRep B W rb r → Calls Tryz.prog f args W fun e w2 => e = .returned v ∧ ∃ r', RRep B w2 rb r' ∧ Fr (rfoot rb r) W w2 ∧ (∀ k ∈ rfoot rb r', k ∈ rfoot rb r ∨ W.heap.size ≤ k) ∧ Sim s r' (q + 1) := fun W hW => by
  refine (hc W hW).mono ?_
  rintro e w2 ⟨he, rfl⟩
  exact ⟨he, r, hW, Fr.refl _ _, fun k hk => Or.inl hk, h.le (by omega)⟩
theorem noted_foot {b : Nat} {s : Sto} {c : UInt8} {t : ByteArray} {lv : Value} {N : Nat} (h : ∀ k, lv.ownBlock = some k → s.lv.ownBlock = some k ∨ N ≤ k) : ∀ k ∈ foot b (s.noted c t lv), k ∈ foot b s ∨ N ≤ k := fun k hk => by
  simp only [foot, Sto.noted, List.mem_append, List.mem_cons, Option.mem_toList] at hk ⊢
  rcases hk with hk | hk
  · exact Or.inl (Or.inl hk)
  · rcases h k hk with h1 | h1
    · exact Or.inl (Or.inr h1)
    · exact Or.inr h1
theorem four {t : ByteArray} (h : t.size = 4) : ∃ x : B4, t = x.ba := by
  obtain ⟨d⟩ := t
  have h1 : d.size = 4 := h
  refine ⟨⟨d[0], d[1], d[2], d[3]⟩, ?_⟩
  unfold B4.ba
  congr 1
  apply Array.ext
  · simp [h1]
  · intro i hi _
    have : i = 0 ∨ i = 1 ∨ i = 2 ∨ i = 3 := by omega
    rcases this with rfl | rfl | rfl | rfl <;> rfl

theorem p_write (h : SD B w db b rb s r) (m : Sim s r q) (k : Int) (t : ByteArray) (hq : q ≤ 2000000) :
    Calls Tryz.prog 25 #[.pointer (some ⟨b, 0, none⟩), .int .i64 k, .string t] w (PC fC B w db b rb s r q 26 #[.pointer (some ⟨rb, 0, none⟩), .int .i64 k, .string t]) := by
  by_cases hb : (decide (0 ≤ k) && decide (k < s.vol.length)) = false ∨ ((t.size : Int) != 4) = true
  · refine (write_bad B b s k t w h.rep hb).mono ?_
    rintro e w1 ⟨rfl, rp, f1⟩
    obtain ⟨b1, hr⟩ := h.pair rp f1 (fun k hk => Or.inl hk) (still m (fun W hW => rwrite_bad B rb r k t W hW (by rw [m.bl.1]; exact hb)))
    exact ⟨1, rfl, b1, hr⟩
  · have hk : 0 ≤ k ∧ k < s.vol.length := by
      have : ¬ (decide (0 ≤ k) && decide (k < s.vol.length)) = false := fun e => hb (Or.inl e)
      simpa using this
    have ht : t.size = 4 := by
      have : ¬ ((t.size : Int) != 4) = true := fun e => hb (Or.inr e)
      simp at this
      omega
    obtain ⟨x, rfl⟩ := four ht
    obtain ⟨n, rfl⟩ : ∃ n : Nat, k = (n : Int) := ⟨k.toNat, by omega⟩
    have hn : n < s.vol.length := by omega
    refine (write_ok B b s n x w h.rep hn (by have := m.lg; omega)).mono ?_
    rintro e w1 ⟨rfl, lv, rp, f1, o1⟩
    obtain ⟨b1, hr⟩ := h.pair rp f1 (noted_foot o1) (f := 26) (args := #[.pointer (some ⟨rb, 0, none⟩), .int .i64 n, .string x.ba]) (v := .int .i64 0) (q := q) (fun W hW => by
      refine (rwrite_ok B rb r n x.ba W hW (by rw [m.bl.1]; exact hn) (by rw [m.bl.1]; exact m.bl.2.2) rfl (by have := m.rn; omega)).mono ?_
      rintro e w2 ⟨rfl, rr, f2⟩
      exact ⟨rfl, _, rr, f2, fun k hk => Or.inl hk, m.write hW.d16 hW.b16 hn x (by show (wtext n x).size ≤ 50; exact (by rfl : (wtext n x).size = 5) ▸ (by omega))⟩)
    exact ⟨0, rfl, b1, hr⟩
theorem p_read (h : SD B w db b rb s r) (m : Sim s r q) (k : Int) :
    Calls Tryz.prog 27 #[.pointer (some ⟨b, 0, none⟩), .int .i64 k] w (PC fT B w db b rb s r q 28 #[.pointer (some ⟨rb, 0, none⟩), .int .i64 k]) := by
  by_cases hb : (decide (0 ≤ k) && decide (k < s.vol.length)) = false
  · refine (read_bad B b s k w h.rep hb).mono ?_
    rintro e w1 ⟨rfl, rp, f1⟩
    obtain ⟨b1, hr⟩ := h.pair rp f1 (fun k hk => Or.inl hk) (still m (fun W hW => rread_bad B rb r k W hW (by rw [m.bl.1]; exact hb)))
    exact ⟨(⟨#[]⟩, 1), rfl, b1, hr⟩
  · have hk : 0 ≤ k ∧ k < s.vol.length := by simpa using hb
    obtain ⟨n, rfl⟩ : ∃ n : Nat, k = (n : Int) := ⟨k.toNat, by omega⟩
    have hn : n < s.vol.length := by omega
    refine (read_ok B b s n w h.rep hn).mono ?_
    rintro e w1 ⟨rfl, rp, f1⟩
    obtain ⟨b1, hr⟩ := h.pair rp f1 (fun k hk => Or.inl hk) (still (v := fT (s.vol[n].x.ba, 0)) m (fun W hW => by
      have h8 := rread_ok B rb r n W hW (by rw [m.bl.1]; exact hn) (by rw [m.bl.1]; exact m.bl.2.2)
      have e := m.dat n hn
      rw [List.getElem?_eq_getElem (by rw [hW.d16]; have := m.bl.2.2; omega)] at e
      simp only [Option.some.injEq] at e
      rw [e] at h8
      exact h8))
    exact ⟨(s.vol[n].x.ba, 0), rfl, b1, hr⟩
end
end Go.Proofs.YthdhegmlknpllaaGreat

/-
  Each call on both stores: Snap, At, Hold, Release, Mark, Unmark.
-/
namespace Go.Proofs.YthdhegmlknpllaaGreat
open Go.RowKit Go.Maps Go.MuLone

section
variable {B : Nat} {w w1 w2 W : World} {db b rb : Nat} {s s' : Sto} {r r' : RSto} {q : Nat}
theorem foot_up {N : Nat} (hv : s'.vb = s.vb) (hm : s'.mb = s.mb) (h1 : ∀ k, s'.sv.ownBlock = some k → s.sv.ownBlock = some k ∨ N ≤ k) (h2 : ∀ k, s'.mv.ownBlock = some k → s.mv.ownBlock = some k ∨ N ≤ k) (h3 : ∀ k, s'.lv.ownBlock = some k → s.lv.ownBlock = some k ∨ N ≤ k) : ∀ k ∈ foot b s', k ∈ foot b s ∨ N ≤ k := fun k hk => by
  simp only [foot, List.mem_append, List.mem_cons, List.not_mem_nil, or_false, Option.mem_toList] at hk ⊢
  rw [hv, hm] at hk
  rcases hk with ((hk | hk) | hk) | hk
  · exact Or.inl (Or.inl (Or.inl (Or.inl hk)))
  · rcases h1 k hk with h | h
    · exact Or.inl (Or.inl (Or.inl (Or.inr h)))
    · exact Or.inr h
  · rcases h2 k hk with h | h
    · exact Or.inl (Or.inl (Or.inr h))
    · exact Or.inr h
  · rcases h3 k hk with h | h
    · exact Or.inl (Or.inr h)
    · exact Or.inr h
theorem rfoot_up {N : Nat} (h1 : ∀ k, r'.sv.ownBlock = some k → r.sv.ownBlock = some k ∨ N ≤ k) (h2 : ∀ k, r'.mv.ownBlock = some k → r.mv.ownBlock = some k ∨ N ≤ k) : ∀ k ∈ rfoot rb r', k ∈ rfoot rb r ∨ N ≤ k := fun k hk => by
  simp only [rfoot, List.mem_append, List.mem_cons, List.not_mem_nil, or_false, Option.mem_toList] at hk ⊢
  rcases hk with (hk | hk) | hk
  · exact Or.inl (Or.inl (Or.inl hk))
  · rcases h1 k hk with h | h
    · exact Or.inl (Or.inl (Or.inr h))
    · exact Or.inr h
  · rcases h2 k hk with h | h
    · exact Or.inl (Or.inr h)
    · exact Or.inr h
theorem n4_size (z : Int) : (n4 z).ba.size ≤ 50 := by
  have : (n4 z).ba.size = 4 := rfl
  omega

theorem nd_len : ∀ (l L : List Int), l.Nodup → (∀ x ∈ l, x ∈ L) → l.length ≤ L.length
  | [], _, _, _ => Nat.zero_le _
  | a :: l, L, h, hs => by
    rw [List.nodup_cons] at h
    have ha := hs a (by simp)
    have ih := nd_len l (L.erase a) h.2 (fun x hx => (List.mem_erase_of_ne (fun e => h.1 (by rw [← e]; exact hx))).2 (hs x (by simp [hx])))
    have hp := List.length_pos_of_mem ha
    rw [List.length_erase_of_mem ha] at ih
    simp only [List.length_cons]
    omega
theorem least_ex (p : Nat → Bool) : ∀ N, (∃ i, i < N ∧ p i = true) → ∃ i, i < N ∧ p i = true ∧ ∀ j, j < i → p j = false
  | 0, ⟨_, h, _⟩ => absurd h (Nat.not_lt_zero _)
  | N + 1, ⟨i, h, hp⟩ => by
    by_cases hs : ∃ i, i < N ∧ p i = true
    · obtain ⟨i, h1, h2⟩ := least_ex p N hs
      exact ⟨i, by omega, h2⟩
    · have e : i = N := by
        rcases Nat.lt_succ_iff_lt_or_eq.1 h with h1 | h1
        · exact absurd ⟨i, h1, hp⟩ hs
        · exact h1
      subst e
      exact ⟨i, h, hp, fun j hj => by cases hq : p j; rfl; exact absurd ⟨j, hj, hq⟩ hs⟩
theorem hs_gls (g : Int) : Hs s g = true ↔ g ∈ gls s := by
  unfold Hs
  rw [Bool.or_eq_true, List.any_eq_true, List.any_eq_true, mem_gls]
  simp
theorem Sim.hs (m : Sim s r q) (g : Int) : RHs r g = Hs s g := by
  have e1 : r.sh.any (fun x => x.guid == g) = (r.sh.map RSh.guid).any (fun z => z == g) := by rw [List.any_map]; rfl
  have e2 : s.ss.any (fun x => x.guid == g) = (s.ss.map Sn.guid).any (fun z => z == g) := by rw [List.any_map]; rfl
  have e3 : r.ms.any (fun x => x.1 == g) = (r.ms.map Prod.fst).any (fun z => z == g) := by rw [List.any_map]; rfl
  have e4 : s.ms.any (fun x => x.1 == g) = (s.ms.map Prod.fst).any (fun z => z == g) := by rw [List.any_map]; rfl
  unfold RHs Hs
  rw [e1, e2, e3, e4, m.guids, m.ms]
theorem Sim.next (m : Sim s r q) : ∃ n, Nxt s n ∧ RNxt r n := by
  have hex : ∃ i, i < 25 ∧ (!Hs s (gu s (s.taken + 1 + (i : Nat)))) = true := by
    by_cases h : ∃ i, i < 25 ∧ (!Hs s (gu s (s.taken + 1 + (i : Nat)))) = true
    · exact h
    · exfalso
      have h1 := nd_len ((List.range 25).map fun i : Nat => gu s (s.taken + 1 + (i : Nat))) (gls s) (by
        rw [List.Nodup, List.pairwise_map]
        refine List.nodup_range.imp ?_
        intro a b hab e
        unfold gu at e
        exact hab (by omega)) (fun x hx => by
        obtain ⟨i, hi, rfl⟩ := List.mem_map.1 hx
        rw [← hs_gls]
        cases hq : Hs s (gu s (s.taken + 1 + (i : Nat)))
        · exact absurd ⟨i, List.mem_range.1 hi, by rw [hq]; rfl⟩ h
        · rfl)
      have := m.len
      simp [gls] at h1
      omega
  obtain ⟨i, h1, h2, h3⟩ := least_ex (fun i => !Hs s (gu s (s.taken + 1 + (i : Nat)))) 25 hex
  have e1 := m.id.1
  have e2 := m.last
  have eg : ∀ k, 1000000 * r.id + k = gu s k := fun k => by unfold gu; omega
  have hN : Nxt s (s.taken + 1 + (i : Nat)) := ⟨by omega, by omega, fun k hk1 hk2 => by
    have h4 := h3 (k - s.taken - 1).toNat (by omega)
    have e : s.taken + 1 + (((k - s.taken - 1).toNat : Nat) : Int) = k := by omega
    rw [e] at h4
    simpa using h4, by simpa using h2⟩
  exact ⟨_, hN, by rw [e2]; exact hN.lo, by rw [e2]; exact hN.hi, fun k hk1 hk2 => by rw [eg, m.hs]; exact hN.no k (by rw [← e2]; exact hk1) hk2, by rw [eg, m.hs]; exact hN.yes⟩
theorem p_snap (h : SD B w db b rb s r) (m : Sim s r q) (t : Int) (hq : q ≤ 2000000) :
    Calls Tryz.prog 29 #[.pointer (some ⟨b, 0, none⟩), .int .i64 t] w (PC fI B w db b rb s r q 30 #[.pointer (some ⟨rb, 0, none⟩), .int .i64 t]) := by
  by_cases ht : t < 0 ∨ 1073741824 < t
  · refine (snap_arg B b s t w h.rep ht).mono ?_
    rintro e w1 ⟨rfl, rp, f1⟩
    obtain ⟨b1, hr⟩ := h.pair rp f1 (fun k hk => Or.inl hk) (still m (fun W _ => rsnap_arg rb t W ht))
    exact ⟨(0, 1), rfl, b1, hr⟩
  · have ht' : 0 ≤ t ∧ t ≤ 1073741824 := by omega
    have hid : 1 ≤ r.id ∧ r.id ≤ 999 := by rw [m.id.1]; exact m.id.2
    have hl12 := m.len
    have e1 := m.last
    have e2 := m.glen
    have e3 := m.mlen
    have e4 := m.cm
    obtain ⟨n, hn, hrn⟩ := m.next
    have hlo := hn.lo
    by_cases hf : s.ss.length = 12 ∨ 999999 < n
    · refine (snap_full B b s n t w h.rep ht' m.id.2 e4.2 hn hl12.1 hl12.2 hf).mono ?_
      rintro e w1 ⟨rfl, rp, f1⟩
      obtain ⟨b1, hr⟩ := h.pair rp f1 (fun k hk => Or.inl hk) (still m (fun W hW => rsnap_full B rb r n t W hW ht' hid (by omega) hrn (by omega) (by omega) (by omega)))
      exact ⟨(0, 5), rfl, b1, hr⟩
    · have hcn := m.cn
      have hbl := m.bl
      refine (snap_ok B b s n t w h.rep ht' m.id.2 (by omega) hn (by omega) hl12.2 (by omega) hbl.2.2 (by unfold maxLen; omega) (by have := m.lg; omega)).mono ?_
      rintro e w1 ⟨rfl, sv, lv, rp, f1, o1, o2⟩
      have eg : gu s n = 1000000 * r.id + n := by have := m.id.1; unfold gu; omega
      have hg : gu s n ∉ gls s := fun hm => by
        have h8 := (hs_gls (gu s n)).2 hm
        rw [hn.yes] at h8
        cases h8
      have hgr : 1 ≤ gu s n ∧ gu s n ≤ 999999999 := by have := m.id.2; unfold gu; omega
      obtain ⟨b1, hr⟩ := h.pair rp f1 (foot_up rfl rfl o1 (fun k hk => Or.inl hk) o2) (f := 30) (args := #[.pointer (some ⟨rb, 0, none⟩), .int .i64 t]) (v := fI (gu s n, 0)) (q := q) (fun W hW => by
        refine (rsnap_ok B rb r n t W hW ht' hid (by omega) hrn (by omega) (by omega) (by have := m.rn; omega)).mono ?_
        rintro e w2 ⟨rfl, sv', rr, f2, o3⟩
        refine ⟨by rw [← eg]; rfl, _, rr, f2, rfoot_up o3 (fun k hk => Or.inl hk), ?_⟩
        have h9 := m.come (sv := sv) (lv := lv) (sv' := sv') s.vol rfl r.dat r.born r.now ⟨Int.le_refl _, by omega⟩ m.dat (fun C cc => cc.vb) (gu s n) t hg hgr ht' (by omega) n (by omega) 83 (tx := (n4 t).ba) (by have := n4_size t; omega)
        unfold RSto.snap
        rw [← eg]
        exact h9)
      exact ⟨(gu s n, 0), rfl, b1, hr⟩
/-- The place of a snapshot, in both. -/
theorem simSpot (m : Sim s r q) (g : Int) : (fi (fun y : Sn => y.guid == g) 0 s.ss = -1 ∧ fi (fun y : RSh => y.guid == g) 0 r.sh = -1) ∨ ∃ (j : Nat) (x : Sn) (y : RSh), s.ss[j]? = some x ∧ r.sh[j]? = some y ∧ fi (fun y : Sn => y.guid == g) 0 s.ss = (j : Int) ∧ fi (fun y : RSh => y.guid == g) 0 r.sh = (j : Int) ∧ x.guid = g ∧ y.guid = g ∧ y.holds = x.holds ∧ x ∈ s.ss ∧ y ∈ r.sh := by
  rcases fi_cases (fun y : Sn => y.guid == g) s.ss with e | ⟨j, hj, e, hg⟩
  · exact Or.inl ⟨e, by rw [m.fi]; exact e⟩
  · have hj' : j < r.sh.length := by rw [m.glen]; exact hj
    have hxy := m.at hj
    unfold t3 r3 at hxy
    simp only [Prod.mk.injEq] at hxy
    have hg' : s.ss[j].guid = g := by simpa using hg
    exact Or.inr ⟨j, s.ss[j], r.sh[j], List.getElem?_eq_getElem hj, List.getElem?_eq_getElem hj', e, by rw [m.fi]; exact e, hg', by rw [← hxy.1]; exact hg', hxy.2.2.symm, List.getElem_mem hj, List.getElem_mem hj'⟩

theorem p_at (h : SD B w db b rb s r) (m : Sim s r q) (g k : Int) (hg64 : In64 g) :
    Calls Tryz.prog 35 #[.pointer (some ⟨b, 0, none⟩), .int .i64 g, .int .i64 k] w (PC fT B w db b rb s r q 36 #[.pointer (some ⟨rb, 0, none⟩), .int .i64 g, .int .i64 k]) := by
  have hl12 := m.len.1
  have e2 := m.glen
  rcases simSpot m g with ⟨e, e'⟩ | ⟨j, x, y, hx, hy, e, e', hxg, hyg, hh, hxm, hym⟩
  · refine (at_none B b s g k w h.rep hl12 e).mono ?_
    rintro e w1 ⟨rfl, rp, f1⟩
    obtain ⟨b1, hr⟩ := h.pair rp f1 (fun k hk => Or.inl hk) (still m (fun W hW => rat_none B rb r g k W hW (by omega) e'))
    exact ⟨(⟨#[]⟩, 3), rfl, b1, hr⟩
  · by_cases hb : (decide (0 ≤ k) && decide (k < s.vol.length)) = false
    · refine (at_arg B b s g j k w h.rep hl12 e hb).mono ?_
      rintro e w1 ⟨rfl, rp, f1⟩
      obtain ⟨b1, hr⟩ := h.pair rp f1 (fun k hk => Or.inl hk) (still m (fun W hW => rat_arg B rb r g k j W hW (by omega) e' (by rw [m.bl.1]; exact hb)))
      exact ⟨(⟨#[]⟩, 1), rfl, b1, hr⟩
    · have hk : 0 ≤ k ∧ k < s.vol.length := by simpa using hb
      obtain ⟨n, rfl⟩ : ∃ n : Nat, k = (n : Int) := ⟨k.toNat, by omega⟩
      have hn : n < s.vol.length := by omega
      refine (at_ok B b s g n w h.rep (by omega) hg64 ⟨x, hxm, by simpa using hxg⟩ hn m.bl.2.2).mono ?_
      rintro e w1 ⟨rfl, rp, f1⟩
      obtain ⟨b1, hr⟩ := h.pair rp f1 (fun k hk => Or.inl hk) (still (v := fT ((s.th g n).x.ba, 0)) m (fun W hW => by
        have hw := hW.wf y hym
        have h8 := rat_ok B rb r g j n y W hW (by omega) e' hy (by rw [m.bl.1]; exact hn) (by rw [m.bl.1]; exact m.bl.2.2) hw
        have e3 := m.th y hym n hn
        rw [hyg, List.getElem?_eq_getElem (by rw [hw.1]; have := m.bl.2.2; omega)] at e3
        simp only [Option.some.injEq] at e3
        rw [e3] at h8
        exact h8))
      exact ⟨((s.th g n).x.ba, 0), rfl, b1, hr⟩
theorem p_hold (h : SD B w db b rb s r) (m : Sim s r q) (g : Int) (hq : q ≤ 2000000) :
    Calls Tryz.prog 37 #[.pointer (some ⟨b, 0, none⟩), .int .i64 g] w (PC fC B w db b rb s r q 38 #[.pointer (some ⟨rb, 0, none⟩), .int .i64 g]) := by
  have hl12 := m.len.1
  have e2 := m.glen
  rcases simSpot m g with ⟨e, e'⟩ | ⟨j, x, y, hx, hy, e, e', hxg, hyg, hh, hxm, hym⟩
  · refine (hold_none B b s g w h.rep hl12 e).mono ?_
    rintro e w1 ⟨rfl, rp, f1⟩
    obtain ⟨b1, hr⟩ := h.pair rp f1 (fun k hk => Or.inl hk) (still m (fun W hW => rhold_none B rb r g W hW (by omega) e'))
    exact ⟨3, rfl, b1, hr⟩
  · have hho := m.ho x hxm
    by_cases h9 : 9 ≤ x.holds
    · refine (hold_full B b s g j x w h.rep hl12 e hx h9).mono ?_
      rintro e w1 ⟨rfl, rp, f1⟩
      obtain ⟨b1, hr⟩ := h.pair rp f1 (fun k hk => Or.inl hk) (still m (fun W hW => rhold_full B rb r g j y W hW (by omega) e' hy (by omega)))
      exact ⟨5, rfl, b1, hr⟩
    · refine (hold_ok B b s g j x w h.rep hl12 e hx (by omega) (by have := m.lg; omega)).mono ?_
      rintro e w1 ⟨rfl, lv, rp, f1, o1⟩
      obtain ⟨b1, hr⟩ := h.pair rp f1 (foot_up rfl rfl (fun k hk => Or.inl hk) (fun k hk => Or.inl hk) o1) (f := 38) (args := #[.pointer (some ⟨rb, 0, none⟩), .int .i64 g]) (v := fC 0) (q := q) (fun W hW => by
        refine (rhold_ok B rb r g j y W hW (by omega) e' hy (by omega)).mono ?_
        rintro e w2 ⟨rfl, rr, f2⟩
        rw [hh] at rr
        exact ⟨rfl, _, rr, f2, fun k hk => Or.inl hk, m.setH hx hy (by omega) (n4_size g)⟩)
      exact ⟨0, rfl, b1, hr⟩
theorem p_release (h : SD B w db b rb s r) (m : Sim s r q) (g : Int) (hq : q ≤ 2000000) :
    Calls Tryz.prog 39 #[.pointer (some ⟨b, 0, none⟩), .int .i64 g] w (PC fC B w db b rb s r q 40 #[.pointer (some ⟨rb, 0, none⟩), .int .i64 g]) := by
  have hl12 := m.len.1
  have e2 := m.glen
  rcases simSpot m g with ⟨e, e'⟩ | ⟨j, x, y, hx, hy, e, e', hxg, hyg, hh, hxm, hym⟩
  · refine (release_none B b s g w h.rep hl12 e).mono ?_
    rintro e w1 ⟨rfl, rp, f1⟩
    obtain ⟨b1, hr⟩ := h.pair rp f1 (fun k hk => Or.inl hk) (still m (fun W hW => rrelease_none B rb r g W hW (by omega) e'))
    exact ⟨3, rfl, b1, hr⟩
  · have hho := m.ho x hxm
    by_cases h0 : x.holds = 0
    · refine (release_bad B b s g j x w h.rep hl12 e hx h0).mono ?_
      rintro e w1 ⟨rfl, rp, f1⟩
      obtain ⟨b1, hr⟩ := h.pair rp f1 (fun k hk => Or.inl hk) (still m (fun W hW => rrelease_bad B rb r g j y W hW (by omega) e' hy (by omega)))
      exact ⟨1, rfl, b1, hr⟩
    · refine (release_ok B b s g j x w h.rep hl12 e hx (by omega) (by have := m.lg; omega)).mono ?_
      rintro e w1 ⟨rfl, lv, rp, f1, o1⟩
      obtain ⟨b1, hr⟩ := h.pair rp f1 (foot_up rfl rfl (fun k hk => Or.inl hk) (fun k hk => Or.inl hk) o1) (f := 40) (args := #[.pointer (some ⟨rb, 0, none⟩), .int .i64 g]) (v := fC 0) (q := q) (fun W hW => by
        refine (rrelease_ok B rb r g j y W hW (by omega) e' hy (by omega)).mono ?_
        rintro e w2 ⟨rfl, rr, f2⟩
        rw [hh] at rr
        exact ⟨rfl, _, rr, f2, fun k hk => Or.inl hk, m.setH hx hy (by omega) (n4_size g)⟩)
      exact ⟨0, rfl, b1, hr⟩
theorem p_mark (h : SD B w db b rb s r) (m : Sim s r q) (g : Int) (hq : q ≤ 2000000) :
    Calls Tryz.prog 42 #[.pointer (some ⟨b, 0, none⟩), .int .i64 g] w (PC fC B w db b rb s r q 43 #[.pointer (some ⟨rb, 0, none⟩), .int .i64 g]) := by
  have hl12 := m.len
  have e2 := m.glen
  have e3 := m.mlen
  rcases fi_cases (fun y : Int × Int => y.1 == g) s.ms with em | ⟨i, hi, em, _⟩
  · have em' : fi (fun y : Int × Int => y.1 == g) 0 r.ms = -1 := by rw [m.fim]; exact em
    rcases simSpot m g with ⟨e, e'⟩ | ⟨j, x, y, hx, hy, e, e', hxg, hyg, hh, hxm, hym⟩
    · refine (mark_none B b s g w h.rep hl12.2 hl12.1 em e).mono ?_
      rintro e w1 ⟨rfl, rp, f1⟩
      obtain ⟨b1, hr⟩ := h.pair rp f1 (fun k hk => Or.inl hk) (still m (fun W hW => rmark_none B rb r g W hW (by omega) (by omega) em' e'))
      exact ⟨3, rfl, b1, hr⟩
    · by_cases hf : s.ms.length = 12
      · refine (mark_full B b s g j w h.rep hf hl12.1 em e).mono ?_
        rintro e w1 ⟨rfl, rp, f1⟩
        obtain ⟨b1, hr⟩ := h.pair rp f1 (fun k hk => Or.inl hk) (still m (fun W hW => rmark_full B rb r g j W hW (by omega) (by omega) em' e'))
        exact ⟨5, rfl, b1, hr⟩
      · have hno : ∀ a ∈ s.ms, a.1 ≠ x.guid := fun a ha e => by
          rw [hxg] at e
          obtain ⟨j, hj, e2, _⟩ := fi_some (p := fun y : Int × Int => y.1 == g) s.ms 0 ⟨a, ha, by simpa using e⟩
          rw [em] at e2
          omega
        have hcm := m.cm
        obtain ⟨C, cc⟩ := m.cc
        have hxc : 0 ≤ x.came ∧ x.came ≤ 1000000000000 := by
          have h8 := cc.rng x.guid (mem_gls.2 (Or.inl ⟨x, hxm, rfl⟩))
          rw [cc.ps x hxm]
          omega
        refine (mark_new B b s g j x w h.rep hl12.1 (by omega) e hx em (fun a ha => by have h8 := cc.rng a.1 (mem_gls.2 (Or.inr ⟨a, ha, rfl⟩)); rw [cc.pm a ha]; omega) hxc (by have := m.lg; omega)).mono ?_
        rintro e w1 ⟨rfl, l, mv, lv, hp, hs, rp, f1, o1, o2⟩
        rw [← hxg] at hp
        obtain ⟨b1, hr⟩ := h.pair rp f1 (foot_up rfl rfl (fun k hk => Or.inl hk) o1 o2) (f := 43) (args := #[.pointer (some ⟨rb, 0, none⟩), .int .i64 g]) (v := fC 0) (q := q) (fun W hW => by
          have fin : ∀ (e : Ending) (w2 : World), (e = .returned (.int .i64 0) ∧ ∃ mv, RRep B w2 rb (r.setM (insM (g, y.came) r.ms) mv) ∧ Fr (rfoot rb r) W w2 ∧ (∀ k, mv.ownBlock = some k → W.heap.size ≤ k)) → (e = .returned (fC 0) ∧ ∃ r', RRep B w2 rb r' ∧ Fr (rfoot rb r) W w2 ∧ (∀ k ∈ rfoot rb r', k ∈ rfoot rb r ∨ W.heap.size ≤ k) ∧ Sim ((s.marked l mv).noted 77 (n4 g).ba lv) r' (q + 1)) := by
            rintro e w2 ⟨rfl, mv', rr, f2, o3⟩
            rw [← hxg] at rr
            exact ⟨rfl, _, rr, f2, rfoot_up (fun k hk => Or.inl hk) (fun k hk => Or.inr (o3 k hk)), m.marked hx hy hno (by omega) hp hs (n4_size g)⟩
          by_cases hn : r.mv = .slice none 0 0
          · have hms : r.ms = [] := by
              have ho := hW.ms
              rw [hn] at ho
              rcases ho.2 with ⟨_, h0⟩ | ⟨g, c, cur, h0, _⟩
              · exact List.length_eq_zero_iff.1 h0
              · simp at h0
            exact (rmark_nil B rb r g j y W hW (by omega) em' e' hy hms hn).mono fun e w2 hp => fin e w2 hp
          · by_cases ha : ahead y.came r.ms < r.ms.length
            · exact (rmark_mid B rb r g j y W hW (by omega) (by omega) em' e' hy ha).mono fun e w2 hp => fin e w2 hp
            · exact (rmark_last B rb r g j y W hW (by omega) (by omega) em' e' hy (ahead_all _ _ (by omega)) hn).mono fun e w2 hp => fin e w2 hp)
        exact ⟨0, rfl, b1, hr⟩
  · refine (mark_was B b s g i w h.rep hl12.2 em).mono ?_
    rintro e w1 ⟨rfl, rp, f1⟩
    obtain ⟨b1, hr⟩ := h.pair rp f1 (fun k hk => Or.inl hk) (still m (fun W hW => rmark_was B rb r g i W hW (by omega) (by omega) (by rw [m.fim]; exact em)))
    exact ⟨0, rfl, b1, hr⟩
theorem p_unmark (h : SD B w db b rb s r) (m : Sim s r q) (g : Int) (hq : q ≤ 2000000) :
    Calls Tryz.prog 44 #[.pointer (some ⟨b, 0, none⟩), .int .i64 g] w (PC fC B w db b rb s r q 45 #[.pointer (some ⟨rb, 0, none⟩), .int .i64 g]) := by
  have hl12 := m.len
  have e3 := m.mlen
  rcases fi_cases (fun y : Int × Int => y.1 == g) s.ms with em | ⟨i, hi, em, _⟩
  · refine (unmark_none B b s g w h.rep hl12.2 em).mono ?_
    rintro e w1 ⟨rfl, rp, f1⟩
    obtain ⟨b1, hr⟩ := h.pair rp f1 (fun k hk => Or.inl hk) (still m (fun W hW => runmark_none B rb r g W hW (by omega) (by rw [m.fim]; exact em)))
    exact ⟨3, rfl, b1, hr⟩
  · refine (unmark_ok B b s g i w h.rep hl12.2 em hi (by have := m.lg; omega)).mono ?_
    rintro e w1 ⟨rfl, mv, lv, rp, f1, o1, o2⟩
    obtain ⟨b1, hr⟩ := h.pair rp f1 (foot_up rfl rfl (fun k hk => Or.inl hk) (fun k hk => Or.inl (by rw [← o1]; exact hk)) o2) (f := 45) (args := #[.pointer (some ⟨rb, 0, none⟩), .int .i64 g]) (v := fC 0) (q := q) (fun W hW => by
      refine (runmark_ok B rb r g i W hW (by omega) (by rw [m.fim]; exact em) (by omega)).mono ?_
      rintro e w2 ⟨rfl, mv', rr, f2, o3⟩
      exact ⟨rfl, _, rr, f2, rfoot_up (fun k hk => Or.inl hk) (fun k hk => Or.inr (o3 k hk)), m.unmark i (n4_size g)⟩)
    exact ⟨0, rfl, b1, hr⟩
end
end Go.Proofs.YthdhegmlknpllaaGreat
