/-
  Carried's two stores in memory, and what each call does to them.
-/
import Derived.Test.YthdhegmlknpllaaCpu
namespace Go.Proofs.Ythdhegmlknpllaa
open Go.RowKit Go.Maps Go.MuLone

set_option maxHeartbeats 400000 in
theorem came_zero (B b : Nat) (q : Int) (s : Sto) (w : World) (_h : Rep B w b q s) :
    Calls Try.prog 61 #[.pointer (some ⟨b, 0, none⟩), .int .i64 0] w fun e w' => e = .returned (.tuple #[.int .i64 0, .bool true]) ∧ Fr [] w w' := by
  go_enter Try.func61, Try.ntmps61
  go_wp2
  go_ret2
  exact ⟨rfl, Fr.refl _ _⟩

set_option maxHeartbeats 400000 in
theorem nth_any (B : Nat) (ao : Option Addr) (zs : List Int) (cap : Nat) (i : Nat) (w : World) (hr : RowB B w ao zs cap) :
    Calls Try.prog 30 #[.slice ao zs.length cap, .int .i64 i] w fun e w' => e = .returned (.int .i64 (tm zs i)) ∧ w' = w := by
  have hcap := hr.1
  by_cases hlt : i < zs.length
  · obtain ⟨rb, off, hao, hrb, hc⟩ := hr.2 (by omega)
    have d1 := hc i hlt
    subst hao
    obtain ⟨x, hx⟩ : ∃ x, tm zs i = x := ⟨_, rfl⟩
    rw [hx] at d1
    rw [hx]
    have hltz : (i : Int) < (zs.length : Int) := by omega
    clear hc hr hx
    go_enter Try.func30, Try.ntmps30
    go_wp2
    go_ret
    exact ⟨rfl, rfl⟩
  · have e : tm zs i = 0 := by
      unfold tm
      rw [List.getElem?_eq_none (by omega)]
      rfl
    rw [e]
    have hltz : ¬ (i : Int) < (zs.length : Int) := by omega
    clear hr e
    go_enter Try.func30, Try.ntmps30
    go_wp2
    go_ret
    exact ⟨rfl, rfl⟩

structure Two (B b1 b2 : Nat) (w W : World) (s r : Sto) : Prop where
  rs : Rep B W b1 0 s
  rr : Rep B W b2 0 r
  ap : ∀ k, k ∈ foot b1 s → k ∉ foot b2 r
  fr : Fr [] w W
theorem Two.same {B b1 b2 : Nat} {w W W' : World} {s r : Sto} (h : Two B b1 b2 w W s r) (hf : Fr [] W W') : Two B b1 b2 w W' s r :=
  ⟨h.rs.kept0 hf, h.rr.kept0 hf, h.ap, h.fr.tr hf⟩
theorem Two.left {B b1 b2 : Nat} {w W W' : World} {s s' r : Sto} (h : Two B b1 b2 w W s r) (hB : B = w.heap.size) (hr : Rep B W' b1 0 s') (hf : Fr (foot b1 s) W W') (hs : ∀ k ∈ foot b1 s', k ∈ foot b1 s ∨ W.heap.size ≤ k) : Two B b1 b2 w W' s' r :=
  ⟨hr, h.rr.kept hf (fun k hk hm => h.ap k hm hk), fun k hk hm => by
    rcases hs k hk with h1 | h1
    · exact h.ap k h1 hm
    · have := (h.rr.lt k hm).2
      omega, h.fr.trans hf (fun k hk => Or.inr (by rw [← hB]; exact (h.rs.lt k hk).1))⟩
theorem Two.right {B b1 b2 : Nat} {w W W' : World} {s r r' : Sto} (h : Two B b1 b2 w W s r) (hB : B = w.heap.size) (hr : Rep B W' b2 0 r') (hf : Fr (foot b2 r) W W') (hs : ∀ k ∈ foot b2 r', k ∈ foot b2 r ∨ W.heap.size ≤ k) : Two B b1 b2 w W' s r' :=
  ⟨h.rs.kept hf (fun k hk hm => h.ap k hk hm), hr, fun k hk hm => by
    rcases hs k hm with h1 | h1
    · exact h.ap k hk h1
    · have := (h.rs.lt k hk).2
      omega, h.fr.trans hf (fun k hk => Or.inr (by rw [← hB]; exact (h.rr.lt k hk).1))⟩

structure CS (B b1 b2 bm : Nat) (w W : World) (d : Int) (n k : Nat) (s r : Sto) (v : Value) : Prop where
  two : Two B b1 b2 w W s r
  box : W.heap[bm]? = some (.cells #[.int .i64 (gd d k), .int .i64 (10 * (k : Int)), v] 46 (0, 0))
  img : W.ownsRow B 9 1 v n (thS s (gd d k) n)
theorem CS.same {B b1 b2 bm : Nat} {w W W' : World} {d : Int} {n k : Nat} {s r : Sto} {v : Value} (h : CS B b1 b2 bm w W d n k s r v) (hf : Fr [] W W') : CS B b1 b2 bm w W' d n k s r v :=
  ⟨h.two.same hf, by rw [hf.block bm (Array.getElem?_eq_some_iff.1 h.box).1 (by simp)]; exact h.box, own_fr' h.img hf⟩
theorem CS.left {B b1 b2 bm : Nat} {w W W' : World} {d : Int} {n k : Nat} {s r : Sto} {v : Value} (h : CS B b1 b2 bm w W d n k s r v) (hB : B = w.heap.size) (hr : Rep B W' b1 0 s) (hf : Fr (foot b1 s) W W') : CS B b1 b2 bm w W' d n k s r v :=
  ⟨h.two.left hB hr hf (fun k hk => Or.inl hk), by rw [hf.block bm (Array.getElem?_eq_some_iff.1 h.box).1 (tag_foot h.two.rs h.box (by decide))]; exact h.box, own_fr h.img hf (own_foot h.two.rs h.img (by decide))⟩
theorem CS.right {B b1 b2 bm : Nat} {w W W' : World} {d : Int} {n k : Nat} {s r r' : Sto} {v : Value} (h : CS B b1 b2 bm w W d n k s r v) (hB : B = w.heap.size) (hr : Rep B W' b2 0 r') (hf : Fr (foot b2 r) W W') (hs : ∀ k ∈ foot b2 r', k ∈ foot b2 r ∨ W.heap.size ≤ k) : CS B b1 b2 bm w W' d n k s r' v :=
  ⟨h.two.right hB hr hf hs, by rw [hf.block bm (Array.getElem?_eq_some_iff.1 h.box).1 (tag_foot h.two.rr h.box (by decide))]; exact h.box, own_fr h.img hf (own_foot h.two.rr h.img (by decide))⟩

/-- What the store that takes in is. -/
structure RI (r : Sto) (s : Sto) (d : Int) (n i q : Nat) (last : Int) (m : Nat) : Prop where
  vol : r.vol.length = n
  ss : r.ss.length = q
  le : q ≤ i
  cm : r.came = q
  ms : r.ms = []
  cnt : r.cnt ≤ q * 16
  lg : r.log.length ≤ m
  gs : ∀ x ∈ r.ss, ∃ a, a < i ∧ x.guid = gd d a
  lst : lastG r.ss = last
  was : (q = 0 ∧ last = 0) ∨ ∃ a, a < i ∧ last = gd d a ∧ ∀ j : Nat, j < n → (r.th last (j : Int)).x = (s.th last (j : Int)).x

theorem RI.made (s : Sto) (d d' : Int) (n vb mb : Nat) (lv : Value) : RI (Sto.made d' n vb mb lv) s d n 0 0 0 7 :=
  ⟨by simp [Sto.made, Sto.noted, Sto.fresh], rfl, Nat.le_refl _, rfl, rfl, Nat.le_refl _, by rw [made_log]; omega, fun x hx => by simp [Sto.made, Sto.noted, Sto.fresh] at hx, rfl, Or.inl ⟨rfl, rfl⟩⟩

/-- Another snapshot is taken: what the other store has stays right. -/
theorem RI.takes {r s s1 : Sto} {d : Int} {n i q m : Nat} {last : Int} {ops : List (Nat × B4)} (h : RI r s d n i q last m) (I : InvI s d n i) (hW : Wrote n s ops s1) (t : Int) (sv lv : Value) : RI r ((s1.snap t sv).noted 83 (n4 t).ba lv) d n i q last m := by
  obtain ⟨_, T2⟩ := taken_th I hW t sv lv
  refine ⟨h.vol, h.ss, h.le, h.cm, h.ms, h.cnt, h.lg, h.gs, h.lst, ?_⟩
  rcases h.was with h1 | ⟨a, ha, rfl, h2⟩
  · exact Or.inl h1
  · refine Or.inr ⟨a, by omega, rfl, fun j hj => ?_⟩
    rw [T2 a _ (by omega)]
    exact h2 j hj
theorem RI.more {r s : Sto} {d : Int} {n i q m : Nat} {last : Int} (h : RI r s d n i q last m) : RI r s d n (i + 1) q last m := by
  refine ⟨h.vol, h.ss, by have := h.le; omega, h.cm, h.ms, h.cnt, h.lg, fun x hx => ?_, h.lst, ?_⟩
  · obtain ⟨a, ha, e⟩ := h.gs x hx
    exact ⟨a, by omega, e⟩
  · rcases h.was with h1 | ⟨a, ha, e, h2⟩
    · exact Or.inl h1
    · exact Or.inr ⟨a, by omega, e, h2⟩
theorem RI.write {r s : Sto} {d : Int} {n i q m : Nat} {last : Int} (h : RI r s d n i q last m) (k : Nat) (x : B4) (lv : Value) : RI ((r.write k x).noted 87 (wtext k x) lv) s d n i q last (m + 7) :=
  ⟨by simp [Sto.write, Sto.noted, h.vol], h.ss, h.le, h.cm, h.ms, h.cnt, by
    have := h.lg
    simp only [Sto.noted, Sto.write, List.length_append]
    have e : (entry 87 (wtext k x)).length = 7 := rfl
    omega, h.gs, h.lst, h.was⟩

/-- What is sent from the last one that came over to the newest. -/
structure SD (S r : Sto) (d : Int) (n k : Nat) (last c xt : Int) : Prop where
  of : (last = 0 ∧ c = 0) ∨ ∃ a : Nat, a < k ∧ last = gd d a ∧ c = (a : Int) + 1
  may : MayB last (gd d k) xt n (flw S (gd d k) c n)
  x : ∀ r' : Sto, r'.vol.length = n → r'.th = r.th → ∀ j : Nat, j < n → ((rvol r' last (flw S (gd d k) c n)).getD j Ct.zero).x = (S.th (gd d k) (j : Int)).x

theorem sd_of {S r : Sto} {d : Int} {n k q m : Nat} {last : Int} (U : WU S d n (k + 1)) (R : RI r S d n k q last m) (hd : 1 ≤ d ∧ d ≤ 999) (hn : 1 ≤ n ∧ n ≤ 16) (hk : k < 12) (xt : Int) (hxt : 0 ≤ xt ∧ xt ≤ 1073741824) : ∃ c, SD S r d n k last c xt := by
  have hg : ∀ a : Nat, a ≤ 12 → 1 ≤ gd d a ∧ gd d a ≤ 999999999 := fun a ha => by unfold gd; omega
  rcases R.was with ⟨_, rfl⟩ | ⟨a, ha, rfl, h2⟩
  · refine ⟨0, Or.inl ⟨rfl, rfl⟩, ⟨Or.inl rfl, hg k (by omega), by have := hg k (by omega); omega, hxt, by omega, ?_, fun _ => ?_, flw_up _ _ _ _⟩, fun r' hv ht j hj => ?_⟩
    · have := flw_len S (gd d k) 0 n
      omega
    · rw [flw_all S (gd d k) n (fun j hj => U.t0 k j (by omega) hj)]
    · rw [rvol_get r' S 0 (gd d k) 0 n j hv hj, if_pos (U.t0 k j (by omega) hj)]
  · refine ⟨(a : Int) + 1, Or.inr ⟨a, ha, rfl, rfl⟩, ⟨Or.inr (hg a (by omega)), hg k (by omega), fun e => by have := gd_in e; omega, hxt, by omega, ?_, fun e => by have := hg a (by omega); omega, flw_up _ _ _ _⟩, fun r' hv ht j hj => ?_⟩
    · have := flw_len S (gd d k) ((a : Int) + 1) n
      omega
    · rw [rvol_get r' S (gd d a) (gd d k) ((a : Int) + 1) n j hv hj]
      by_cases hc : (a : Int) + 1 ≤ (S.th (gd d k) (j : Int)).n
      · rw [if_pos hc]
      · rw [if_neg hc, ht, h2 j hj]
        exact (U.t1 a k j ha (by omega) hj (by omega)).symm

theorem lastG_snoc (l : List Sn) (x : Sn) : lastG (l ++ [x]) = x.guid := by simp [lastG]

theorem RI.recv {S r r0 : Sto} {d : Int} {n k q m : Nat} {last c xt : Int} (R : RI r S d n k q last m) (hS : SD S r0 d n k last c xt) (h0 : r.th = r0.th) (hn : n ≤ 16) (tx : ByteArray) (htx : tx.size ≤ 102) (sv lv : Value) : RI (r.recv last (gd d k) xt (flw S (gd d k) c n) tx sv lv) S d n (k + 1) (q + 1) (gd d k) (m + 104) := by
  have hvl : (rvol r last (flw S (gd d k) c n)).length = n := by unfold rvol; rw [fv_len, vk_len _ _ _ (Nat.le_refl _), R.vol]
  refine ⟨hvl, ?_, by have := R.le; omega, ?_, R.ms, ?_, ?_, ?_, ?_, Or.inr ⟨k, by omega, rfl, fun j hj => ?_⟩⟩
  · simp [Sto.recv, Sto.noted, Sto.add, R.ss]
  · simp [Sto.recv, Sto.noted, Sto.add, R.cm]
  · have := R.cnt
    simp only [Sto.recv, Sto.noted, Sto.add, hvl]
    omega
  · have := R.lg
    simp only [Sto.recv, Sto.noted, Sto.add, List.length_append, entry, List.length_cons, Array.length_toList]
    have e : tx.data.size = tx.size := rfl
    omega
  · intro x hx
    simp only [Sto.recv, Sto.noted, Sto.add] at hx
    rcases List.mem_append.1 hx with h | h
    · obtain ⟨a, ha, e⟩ := R.gs x h
      exact ⟨a, by omega, e⟩
    · simp at h
      subst h
      exact ⟨k, by omega, rfl⟩
  · simp only [Sto.recv, Sto.noted, Sto.add]
    rw [lastG_snoc]
  · have e : (r.recv last (gd d k) xt (flw S (gd d k) c n) tx sv lv).th (gd d k) (j : Int) = (rvol r last (flw S (gd d k) c n)).getD j Ct.zero := by
      simp only [Sto.recv, Sto.noted, Sto.add]
      rw [if_pos ⟨trivial, by omega, by rw [hvl]; omega⟩]
      simp
    rw [e]
    exact hS.x r R.vol h0 j hj
end Go.Proofs.Ythdhegmlknpllaa
