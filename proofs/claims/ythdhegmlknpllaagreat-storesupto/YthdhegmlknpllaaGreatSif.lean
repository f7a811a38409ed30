/-
  Destroy, on both stores; the walk of the law's destroys (41).
-/
import Derived.Test.YthdhegmlknpllaaGreatLks
import Derived.Laws.CopyOwn
namespace Go.Proofs.YthdhegmlknpllaaGreat
open Go.RowKit Go.Maps Go.MuLone

section
variable {B : Nat} {w w1 w2 W : World} {db b rb : Nat} {s s' : Sto} {r r' : RSto} {q : Nat}
/-- The same, the reference's call knowing what the program's left alone. -/
theorem SD.pair2 (h : SD B w db b rb s r) (rp : Rep B w1 b 0 s') (f1 : Fr (foot b s) w w1) (g1 : ∀ k ∈ foot b s', k ∈ foot b s ∨ w.heap.size ≤ k) {f : Nat} {args : Array Value} {v : Value}
    (hr : ∀ W, RRep B W rb r → Fr (foot b s) w W → Calls Tryz.prog f args W fun e w2 => e = .returned v ∧ ∃ r', RRep B w2 rb r' ∧ Fr (rfoot rb r) W w2 ∧ (∀ k ∈ rfoot rb r', k ∈ rfoot rb r ∨ W.heap.size ≤ k) ∧ Sim s' r' (q + 1)) :
    (w1.heap[db]? = some (sdO b rb) ∧ Fr (sft b rb s r) w w1) ∧ ∀ W, Fr [] w1 W → Calls Tryz.prog f args W fun e w2 => e = .returned v ∧ SN B w w2 db b rb s r q := by
  have hd1 : db ∉ foot b s := fun hm => h.ndb (List.mem_append_left _ hm)
  have b1 : w1.heap[db]? = some (sdO b rb) := by rw [f1.block db (Array.getElem?_eq_some_iff.1 h.blk).1 hd1]; exact h.blk
  refine ⟨⟨b1, f1.mono (fun k hk => List.mem_append_left _ hk)⟩, fun W hW => ?_⟩
  have rr1 : RRep B w1 rb r := h.rrep.kept f1 (fun k hk hm => h.dis k hm hk)
  have rrW := rr1.kept0 hW
  refine (hr W rrW (f1.trans hW (by simp))).mono ?_
  rintro e w2 ⟨he, r', rr', f2, g2, m⟩
  have dis1 : ∀ k ∈ foot b s', k ∉ rfoot rb r := fun k hk hm => by
    rcases g1 k hk with h1 | h1
    · exact h.dis k h1 hm
    · have := (h.rrep.lt k hm).2
      omega
  have rpW := rp.kept0 hW
  have rp2 : Rep B w2 b 0 s' := rpW.kept f2 dis1
  have bW : W.heap[db]? = some (sdO b rb) := by rw [hW.block db (Array.getElem?_eq_some_iff.1 b1).1 (by simp)]; exact b1
  have b2 : w2.heap[db]? = some (sdO b rb) := by
    rw [f2.block db (Array.getElem?_eq_some_iff.1 bW).1 (fun hm => h.ndb (List.mem_append_right _ hm))]
    exact bW
  have hf : Fr (sft b rb s r) w w2 := ((f1.mono (fun k hk => List.mem_append_left _ hk)).trans hW (by simp)).trans f2 (fun k hk => Or.inl (List.mem_append_right _ hk))
  refine ⟨he, s', r', ⟨b2, rp2, rr', fun k hk hm => ?_, h.hdb⟩, m, hf, fun k hk => ?_⟩
  · rcases g2 k hm with h1 | h1
    · exact dis1 k hk h1
    · have := (rpW.lt k hk).2
      omega
  · rcases List.mem_append.1 hk with hk | hk
    · rcases g1 k hk with h1 | h1
      · exact Or.inl (List.mem_append_left _ h1)
      · exact Or.inr h1
    · rcases g2 k hk with h1 | h1
      · exact Or.inl (List.mem_append_right _ h1)
      · exact Or.inr (Nat.le_trans (Nat.le_trans f1.size hW.size) h1)


theorem any_map {α β : Type} (f : α → β) (p : β → Bool) (l : List α) : (l.map f).any p = l.any fun x => p (f x) := by rw [List.any_map]; rfl
theorem Sim.fine (m : Sim s r q) (zs : List Int) (k : Nat) : fineAt (r.sh.map RSh.sn) zs k = fineAt s.ss zs k := by
  unfold fineAt
  congr 1
  have e1 := any_map Sn.guid (fun g : Int => g == tm zs k) s.ss
  have e2 := any_map RSh.guid (fun g : Int => g == tm zs k) r.sh
  rw [m.guids, e2] at e1
  rw [List.any_map]
  exact e1
theorem Sim.held (m : Sim s r q) (zs : List Int) (k : Nat) : heldAt (r.sh.map RSh.sn) zs k = heldAt s.ss zs k := by
  unfold heldAt
  have e1 := any_map t3 (fun y : Int × Int × Int => (y.1 == tm zs k) && decide (y.2.2 > 0)) s.ss
  have e2 := any_map r3 (fun y : Int × Int × Int => (y.1 == tm zs k) && decide (y.2.2 > 0)) r.sh
  rw [m.ss, e2] at e1
  rw [List.any_map]
  exact e1
theorem RowG.fr {F : List Nat} {ao : Option Addr} {zs : List Int} {cap : Nat} (h : RowG w ao zs cap) (hf : Fr F w W) (hn : ∀ k off, ao = some ⟨k, off, none⟩ → 0 < zs.length → k ∉ F) : RowG W ao zs cap := by
  refine ⟨h.1, fun h0 => ?_⟩
  obtain ⟨rb, off, e, hc⟩ := h.2 h0
  refine ⟨rb, off, e, fun i hi => ?_⟩
  exact (World.cell?_of_block (hf.block rb (World.block_lt_of_cell? _ _ (hc i hi)) (hn rb off e h0))).trans (hc i hi)

theorem p_destroy (h : SD B w db b rb s r) (m : Sim s r q) (a1 a2 : Option Addr) (p1 p2 : Nat) (zs : List Int) (r1 : RowG w a1 zs p1) (r2 : RowG w a2 zs p2) (n1 : ∀ k off, a1 = some ⟨k, off, none⟩ → 0 < zs.length → k ∉ sft b rb s r) (n2 : ∀ k off, a2 = some ⟨k, off, none⟩ → 0 < zs.length → k ∉ sft b rb s r) (hb : ∀ i, i < zs.length → In64 (tm zs i)) (hz : zs.length ≤ 2000000) (hq : q ≤ 2000000) :
    Calls Tryz.prog 67 #[.pointer (some ⟨b, 0, none⟩), .slice a1 zs.length p1] w (PC fC B w db b rb s r q 68 #[.pointer (some ⟨rb, 0, none⟩), .slice a2 zs.length p2]) := by
  have hl12 := m.len
  have e2 := m.glen
  refine (destroy_any B b s a1 zs p1 w h.rep hl12.1 m.bl.2.2 m.nd r1 hz hb (fun k off e h0 hm => n1 k off e h0 (List.mem_append_left _ hm)) (by have := m.lg; omega)).mono ?_
  rintro e w1 ⟨f1, hc⟩
  have hr0 : ∀ W, RRep B W rb r → Fr (foot b s) w W → _ := fun W hW hf => rdestroy_any B rb r a2 zs p2 W hW (by omega) m.rnd (r2.fr hf (fun k off e h0 hm => n2 k off e h0 (List.mem_append_left _ hm))) hz (fun k off e h0 hm => n2 k off e h0 (List.mem_append_right _ hm))
  have fine0 : ∀ k, fineAt (r.sh.map RSh.sn) zs k = fineAt s.ss zs k := m.fine zs
  have held0 : ∀ k, heldAt (r.sh.map RSh.sn) zs k = heldAt s.ss zs k := m.held zs
  rcases hc with ⟨rfl, ⟨k, hk, hbad⟩, rp⟩ | ⟨rfl, hfi, ⟨k, hk, hhe⟩, rp⟩ | ⟨rfl, hfi, hno, s', d⟩
  · obtain ⟨b1, hr⟩ := h.pair2 rp f1 (fun k hk => Or.inl hk) (f := 68) (args := #[.pointer (some ⟨rb, 0, none⟩), .slice a2 zs.length p2]) (v := fC 3) (q := q) (fun W hW hf => by
      refine (hr0 W hW hf).mono ?_
      rintro e w2 ⟨f2, ⟨rfl, _, rr⟩ | ⟨_, hall, _⟩ | ⟨_, hall, _⟩⟩
      · exact ⟨rfl, r, rr, f2, fun k hk => Or.inl hk, m.le (by omega)⟩
      · have := hall k hk
        rw [fine0, hbad] at this
        cases this
      · have := hall k hk
        rw [fine0, hbad] at this
        cases this)
    exact ⟨3, rfl, b1, hr⟩
  · obtain ⟨b1, hr⟩ := h.pair2 rp f1 (fun k hk => Or.inl hk) (f := 68) (args := #[.pointer (some ⟨rb, 0, none⟩), .slice a2 zs.length p2]) (v := fC 4) (q := q) (fun W hW hf => by
      refine (hr0 W hW hf).mono ?_
      rintro e w2 ⟨f2, ⟨_, ⟨j, hj, hbad⟩, _⟩ | ⟨rfl, _, _, rr⟩ | ⟨_, _, hall, _⟩⟩
      · rw [fine0, hfi j hj] at hbad
        cases hbad
      · exact ⟨rfl, r, rr, f2, fun k hk => Or.inl hk, m.le (by omega)⟩
      · have := hall k hk
        rw [held0, hhe] at this
        cases this)
    exact ⟨4, rfl, b1, hr⟩
  · obtain ⟨b1, hr⟩ := h.pair2 d.rep f1 d.foot (f := 68) (args := #[.pointer (some ⟨rb, 0, none⟩), .slice a2 zs.length p2]) (v := fC 0) (q := q) (fun W hW hf => by
      refine (hr0 W hW hf).mono ?_
      rintro e w2 ⟨f2, ⟨_, ⟨j, hj, hbad⟩, _⟩ | ⟨_, _, ⟨j, hj, hh⟩, _⟩ | ⟨rfl, _, _, sv, rr, f3, o3⟩⟩
      · rw [fine0, hfi j hj] at hbad
        cases hbad
      · rw [held0, hno j hj] at hh
        cases hh
      · exact ⟨rfl, _, rr, f3, rfoot_up o3 (fun k hk => Or.inl hk), m.destroy d (by have := fine_len hfi; omega) sv⟩)
    exact ⟨0, rfl, b1, hr⟩
end
end Go.Proofs.YthdhegmlknpllaaGreat
