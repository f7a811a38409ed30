/-
  A side in memory: the program's store and the reference's beside each other; each call on both.
-/
import Derived.Test.YthdhegmlknpllaaGreatSis
namespace Go.Proofs.YthdhegmlknpllaaGreat
open Go.RowKit Go.Maps Go.MuLone

section
variable {B : Nat} {w w1 w2 W : World} {db b rb : Nat} {s s' : Sto} {r r' : RSto} {q : Nat}
theorem foot_tag {z : Int} (h : Rep B w b z s) {k : Nat} (hk : k ∈ foot b s) {cur : Array Value} {t : TypeId} {fr : Nat × Nat} (e : w.heap[k]? = some (.cells cur t fr)) : t = 76 ∨ t = 112 ∨ t = 119 ∨ t = 125 ∨ t = 5 := by
  simp only [foot, List.mem_append, List.mem_cons, List.not_mem_nil, or_false, Option.mem_toList] at hk
  rcases hk with (((rfl | rfl | rfl) | h1) | h1) | h1
  · have h2 := h.blk
    rw [e] at h2
    simp [Sto.blk] at h2
    exact Or.inl h2.2.1
  · have h2 := h.vol
    rw [e] at h2
    simp at h2
    exact Or.inr (Or.inl h2.2.1)
  · obtain ⟨es, c, h1⟩ := h.th.at
    rw [h1] at e
    simp at e
  · obtain ⟨_, cur', h2⟩ := own_tag h.ss h1
    rw [h2] at e
    simp at e
    exact Or.inr (Or.inr (Or.inl e.2.1.symm))
  · obtain ⟨_, cur', h2⟩ := own_tag h.ms h1
    rw [h2] at e
    simp at e
    exact Or.inr (Or.inr (Or.inr (Or.inl e.2.1.symm)))
  · obtain ⟨_, cur', h2⟩ := own_tag h.lg h1
    rw [h2] at e
    simp at e
    exact Or.inr (Or.inr (Or.inr (Or.inr e.2.1.symm)))
theorem rfoot_tag (h : RRep B w rb r) {k : Nat} (hk : k ∈ rfoot rb r) {cur : Array Value} {t : TypeId} {fr : Nat × Nat} (e : w.heap[k]? = some (.cells cur t fr)) : t = 86 ∨ t = 117 ∨ t = 129 := by
  simp only [rfoot, List.mem_append, List.mem_cons, List.not_mem_nil, or_false, Option.mem_toList] at hk
  rcases hk with (rfl | h1) | h1
  · have h2 := h.blk
    rw [e] at h2
    simp at h2
    exact Or.inl h2.2.1
  · obtain ⟨_, cur', h2⟩ := own_tag h.sh h1
    rw [h2] at e
    simp at e
    exact Or.inr (Or.inl e.2.1.symm)
  · obtain ⟨_, cur', h2⟩ := own_tag h.ms h1
    rw [h2] at e
    simp at e
    exact Or.inr (Or.inr e.2.1.symm)

/-- A side's block. -/
def sdO (b rb : Nat) : Obj := .cells #[.pointer (some ⟨b, 0, none⟩), .pointer (some ⟨rb, 0, none⟩), .slice none 0 0] 53 (0, 0)
structure SD (B : Nat) (w : World) (db b rb : Nat) (s : Sto) (r : RSto) : Prop where
  blk : w.heap[db]? = some (sdO b rb)
  rep : Rep B w b 0 s
  rrep : RRep B w rb r
  dis : ∀ k ∈ foot b s, k ∉ rfoot rb r
  hdb : B ≤ db
def sft (b rb : Nat) (s : Sto) (r : RSto) : List Nat := foot b s ++ rfoot rb r
/-- A block of another type is none of a side's stores. -/
theorem sft_no (rp : Rep B w b 0 s) (rr : RRep B w rb r) {k : Nat} {cur : Array Value} {t : TypeId} (e : w.heap[k]? = some (.cells cur t (0, 0))) (ht : t ≠ 76 ∧ t ≠ 112 ∧ t ≠ 119 ∧ t ≠ 125 ∧ t ≠ 5 ∧ t ≠ 86 ∧ t ≠ 117 ∧ t ≠ 129) : k ∉ sft b rb s r := fun hm => by
  rcases List.mem_append.1 hm with hm | hm
  · rcases foot_tag rp hm e with h | h | h | h | h
    · exact ht.1 h
    · exact ht.2.1 h
    · exact ht.2.2.1 h
    · exact ht.2.2.2.1 h
    · exact ht.2.2.2.2.1 h
  · rcases rfoot_tag rr hm e with h | h | h
    · exact ht.2.2.2.2.2.1 h
    · exact ht.2.2.2.2.2.2.1 h
    · exact ht.2.2.2.2.2.2.2 h
theorem SD.no (h : SD B w db b rb s r) {k : Nat} {cur : Array Value} {t : TypeId} (e : w.heap[k]? = some (.cells cur t (0, 0))) (ht : t ≠ 76 ∧ t ≠ 112 ∧ t ≠ 119 ∧ t ≠ 125 ∧ t ≠ 5 ∧ t ≠ 86 ∧ t ≠ 117 ∧ t ≠ 129) : k ∉ sft b rb s r := sft_no h.rep h.rrep e ht
theorem SD.ndb (h : SD B w db b rb s r) : db ∉ sft b rb s r := h.no h.blk (by decide)
theorem SD.lt (h : SD B w db b rb s r) : ∀ k ∈ sft b rb s r, B ≤ k ∧ k < w.heap.size := fun k hk => by
  rcases List.mem_append.1 hk with hk | hk
  · exact h.rep.lt k hk
  · exact h.rrep.lt k hk
/-- Others' calls leave a side as it is. -/
theorem SD.fr (h : SD B w db b rb s r) {F : List Nat} (hf : Fr F w W) (hn : ∀ k ∈ sft b rb s r, k ∉ F) (hd : db ∉ F) : SD B W db b rb s r :=
  ⟨by rw [hf.block db (Array.getElem?_eq_some_iff.1 h.blk).1 hd]; exact h.blk, h.rep.kept hf (fun k hk => hn k (List.mem_append_left _ hk)), h.rrep.kept hf (fun k hk => hn k (List.mem_append_right _ hk)), h.dis, h.hdb⟩
theorem SD.same (h : SD B w db b rb s r) (hf : Fr [] w W) : SD B W db b rb s r := h.fr hf (by simp) (by simp)

/-- A side behind a call on both. -/
def SN (B : Nat) (w w' : World) (db b rb : Nat) (s : Sto) (r : RSto) (q : Nat) : Prop :=
  ∃ s' r', SD B w' db b rb s' r' ∧ Sim s' r' (q + 1) ∧ Fr (sft b rb s r) w w' ∧ ∀ k ∈ sft b rb s' r', k ∈ sft b rb s r ∨ w.heap.size ≤ k
/-- The program's call is done; then the reference's. -/
theorem SD.pair (h : SD B w db b rb s r) (rp : Rep B w1 b 0 s') (f1 : Fr (foot b s) w w1) (g1 : ∀ k ∈ foot b s', k ∈ foot b s ∨ w.heap.size ≤ k) {f : Nat} {args : Array Value} {v : Value}
    (hr : ∀ W, RRep B W rb r → Calls Tryz.prog f args W fun e w2 => e = .returned v ∧ ∃ r', RRep B w2 rb r' ∧ Fr (rfoot rb r) W w2 ∧ (∀ k ∈ rfoot rb r', k ∈ rfoot rb r ∨ W.heap.size ≤ k) ∧ Sim s' r' (q + 1)) :
    (w1.heap[db]? = some (sdO b rb) ∧ Fr (sft b rb s r) w w1) ∧ ∀ W, Fr [] w1 W → Calls Tryz.prog f args W fun e w2 => e = .returned v ∧ SN B w w2 db b rb s r q := by
  have hd1 : db ∉ foot b s := fun hm => h.ndb (List.mem_append_left _ hm)
  have b1 : w1.heap[db]? = some (sdO b rb) := by rw [f1.block db (Array.getElem?_eq_some_iff.1 h.blk).1 hd1]; exact h.blk
  refine ⟨⟨b1, f1.mono (fun k hk => List.mem_append_left _ hk)⟩, fun W hW => ?_⟩
  have rr1 : RRep B w1 rb r := h.rrep.kept f1 (fun k hk hm => h.dis k hm hk)
  have rrW := rr1.kept0 hW
  refine (hr W rrW).mono ?_
  rintro e w2 ⟨he, r', rr', f2, g2, m⟩
  have dis1 : ∀ k ∈ foot b s', k ∉ rfoot rb r := fun k hk hm => by
    rcases g1 k hk with h1 | h1
    · exact h.dis k h1 hm
    · have := (h.rrep.lt k hm).2
      omega
  have rpW := rp.kept0 hW
  have rp2 : Rep B w2 b 0 s' := rpW.kept f2 dis1
  have bW : W.heap[db]? = some (sdO b rb) := by rw [hW.block db (Array.getElem?_eq_some_iff.1 b1).1 (by simp)]; exact b1
  have b2 : w2.heap[db]? = some (sdO b rb) := by
    rw [f2.block db (Array.getElem?_eq_some_iff.1 bW).1 (fun hm => h.ndb (List.mem_append_right _ hm))]
    exact bW
  have hf : Fr (sft b rb s r) w w2 := ((f1.mono (fun k hk => List.mem_append_left _ hk)).trans hW (by simp)).trans f2 (fun k hk => Or.inl (List.mem_append_right _ hk))
  refine ⟨he, s', r', ⟨b2, rp2, rr', fun k hk hm => ?_, h.hdb⟩, m, hf, fun k hk => ?_⟩
  · rcases g2 k hm with h1 | h1
    · exact dis1 k hk h1
    · have := (rpW.lt k hk).2
      omega
  · rcases List.mem_append.1 hk with hk | hk
    · rcases g1 k hk with h1 | h1
      · exact Or.inl (List.mem_append_left _ h1)
      · exact Or.inr h1
    · rcases g2 k hk with h1 | h1
      · exact Or.inl (List.mem_append_right _ h1)
      · exact Or.inr (Nat.le_trans (Nat.le_trans f1.size hW.size) h1)

/-- What a call on both answers: both the same. -/
def PC {α : Type} (f : α → Value) (B : Nat) (w : World) (db b rb : Nat) (s : Sto) (r : RSto) (q fr : Nat) (args : Array Value) (e : Ending) (w1 : World) : Prop :=
  ∃ a : α, e = .returned (f a) ∧ (w1.heap[db]? = some (sdO b rb) ∧ Fr (sft b rb s r) w w1) ∧ ∀ W, Fr [] w1 W → Calls Tryz.prog fr args W fun e2 w2 => e2 = .returned (f a) ∧ SN B w w2 db b rb s r q
def fC (c : Int) : Value := .int .i64 c
def fT (p : ByteArray × Int) : Value := .tuple #[.string p.1, .int .i64 p.2]
def fI (p : Int × Int) : Value := .tuple #[.int .i64 p.1, .int .i64 p.2]

/-- The reference's call changes nothing. -/
theorem still (h : Sim s r q) {v : Value} {f : Nat} {args : Array Value} (hc : ∀ W, RRep B W rb r → Calls Tryz.prog f args W fun e w2 => e = .returned v ∧ w2 = W) : ∀ W, RRep B W rb r → Calls Tryz.prog f args W fun e w2 => e = .returned v ∧ ∃ r', RRep B w2 rb r' ∧ Fr (rfoot rb r) W w2 ∧ (∀ k ∈ rfoot rb r', k ∈ rfoot rb r ∨ W.heap.size ≤ k) ∧ Sim s r' (q + 1) := fun W hW => by
  refine (hc W hW).mono ?_
  rintro e w2 ⟨he, rfl⟩
  exact ⟨he, r, hW, Fr.refl _ _, fun k hk => Or.inl hk, h.le (by omega)⟩
theorem noted_foot {b : Nat} {s : Sto} {c : UInt8} {t : ByteArray} {lv : Value} {N : Nat} (h : ∀ k, lv.ownBlock = some k → s.lv.ownBlock = some k ∨ N ≤ k) : ∀ k ∈ foot b (s.noted c t lv), k ∈ foot b s ∨ N ≤ k := fun k hk => by
  simp only [foot, Sto.noted, List.mem_append, List.mem_cons, Option.mem_toList] at hk ⊢
  rcases hk with hk | hk
  · exact Or.inl (Or.inl hk)
  · rcases h k hk with h1 | h1
    · exact Or.inl (Or.inr h1)
    · exact Or.inr h1
theorem four {t : ByteArray} (h : t.size = 4) : ∃ x : B4, t = x.ba := by
  obtain ⟨d⟩ := t
  have h1 : d.size = 4 := h
  refine ⟨⟨d[0], d[1], d[2], d[3]⟩, ?_⟩
  unfold B4.ba
  congr 1
  apply Array.ext
  · simp [h1]
  · intro i hi _
    have : i = 0 ∨ i = 1 ∨ i = 2 ∨ i = 3 := by omega
    rcases this with rfl | rfl | rfl | rfl <;> rfl

theorem p_write (h : SD B w db b rb s r) (m : Sim s r q) (k : Int) (t : ByteArray) (hq : q ≤ 2000000) :
    Calls Tryz.prog 25 #[.pointer (some ⟨b, 0, none⟩), .int .i64 k, .string t] w (PC fC B w db b rb s r q 26 #[.pointer (some ⟨rb, 0, none⟩), .int .i64 k, .string t]) := by
  by_cases hb : (decide (0 ≤ k) && decide (k < s.vol.length)) = false ∨ ((t.size : Int) != 4) = true
  · refine (write_bad B b s k t w h.rep hb).mono ?_
    rintro e w1 ⟨rfl, rp, f1⟩
    obtain ⟨b1, hr⟩ := h.pair rp f1 (fun k hk => Or.inl hk) (still m (fun W hW => rwrite_bad B rb r k t W hW (by rw [m.bl.1]; exact hb)))
    exact ⟨1, rfl, b1, hr⟩
  · have hk : 0 ≤ k ∧ k < s.vol.length := by
      have : ¬ (decide (0 ≤ k) && decide (k < s.vol.length)) = false := fun e => hb (Or.inl e)
      simpa using this
    have ht : t.size = 4 := by
      have : ¬ ((t.size : Int) != 4) = true := fun e => hb (Or.inr e)
      simp at this
      omega
    obtain ⟨x, rfl⟩ := four ht
    obtain ⟨n, rfl⟩ : ∃ n : Nat, k = (n : Int) := ⟨k.toNat, by omega⟩
    have hn : n < s.vol.length := by omega
    refine (write_ok B b s n x w h.rep hn (by have := m.lg; omega)).mono ?_
    rintro e w1 ⟨rfl, lv, rp, f1, o1⟩
    obtain ⟨b1, hr⟩ := h.pair rp f1 (noted_foot o1) (f := 26) (args := #[.pointer (some ⟨rb, 0, none⟩), .int .i64 n, .string x.ba]) (v := .int .i64 0) (q := q) (fun W hW => by
      refine (rwrite_ok B rb r n x.ba W hW (by rw [m.bl.1]; exact hn) (by rw [m.bl.1]; exact m.bl.2.2) rfl (by have := m.rn; omega)).mono ?_
      rintro e w2 ⟨rfl, rr, f2⟩
      exact ⟨rfl, _, rr, f2, fun k hk => Or.inl hk, m.write hW.d16 hn x (by show (wtext n x).size ≤ 50; exact (by rfl : (wtext n x).size = 5) ▸ (by omega))⟩)
    exact ⟨0, rfl, b1, hr⟩
theorem p_read (h : SD B w db b rb s r) (m : Sim s r q) (k : Int) :
    Calls Tryz.prog 27 #[.pointer (some ⟨b, 0, none⟩), .int .i64 k] w (PC fT B w db b rb s r q 28 #[.pointer (some ⟨rb, 0, none⟩), .int .i64 k]) := by
  by_cases hb : (decide (0 ≤ k) && decide (k < s.vol.length)) = false
  · refine (read_bad B b s k w h.rep hb).mono ?_
    rintro e w1 ⟨rfl, rp, f1⟩
    obtain ⟨b1, hr⟩ := h.pair rp f1 (fun k hk => Or.inl hk) (still m (fun W hW => rread_bad B rb r k W hW (by rw [m.bl.1]; exact hb)))
    exact ⟨(⟨#[]⟩, 1), rfl, b1, hr⟩
  · have hk : 0 ≤ k ∧ k < s.vol.length := by simpa using hb
    obtain ⟨n, rfl⟩ : ∃ n : Nat, k = (n : Int) := ⟨k.toNat, by omega⟩
    have hn : n < s.vol.length := by omega
    refine (read_ok B b s n w h.rep hn).mono ?_
    rintro e w1 ⟨rfl, rp, f1⟩
    obtain ⟨b1, hr⟩ := h.pair rp f1 (fun k hk => Or.inl hk) (still (v := fT (s.vol[n].x.ba, 0)) m (fun W hW => by
      have h8 := rread_ok B rb r n W hW (by rw [m.bl.1]; exact hn) (by rw [m.bl.1]; exact m.bl.2.2)
      have e := m.dat n hn
      rw [List.getElem?_eq_getElem (by rw [hW.d16]; have := m.bl.2.2; omega)] at e
      simp only [Option.some.injEq] at e
      rw [e] at h8
      exact h8))
    exact ⟨(s.vol[n].x.ba, 0), rfl, b1, hr⟩
end
end Go.Proofs.YthdhegmlknpllaaGreat
