/-
  What each call of Carried does to its two stores.
-/
import Derived.Test.YthdhegmlknpllaaCst
namespace Go.Proofs.Ythdhegmlknpllaa
open Go.RowKit Go.Maps Go.MuLone

variable {B b1 b2 bm : Nat} {w W : World} {d : Int} {n k q m : Nat} {S r r0 : Sto} {v : Value} {last c xt : Int}

def lostB : B4 := ⟨108, 111, 115, 116⟩

theorem c_send (hB : B = w.heap.size) (hd : 1 ≤ d ∧ d ≤ 999) (hn : 1 ≤ n ∧ n ≤ 16) (hk : k < 12) (I : InvI S d n (k + 1)) {x : Sn} (hx : S.ss[k]? = some x) (hxt : x.time = xt) (D : SD S r0 d n k last c xt) (h : CS B b1 b2 bm w W d n k S r v) :
    Calls Try.prog 31 #[.pointer (some ⟨b1, 0, none⟩), .int .i64 last, .int .i64 (gd d k)] W fun e w' => e = .returned (.tuple #[.string (streamT last (gd d k) xt n (flw S (gd d k) c n)), .int .i64 0]) ∧ CS B b1 b2 bm w w' d n k S r v := by
  obtain ⟨xb, hb1, _, hb3, _⟩ := inv_at I (show k < k + 1 by omega)
  rw [hx] at hb1
  have e : x = xb := by simpa using hb1
  have hc : c < x.came := by
    rw [e, hb3]
    rcases D.of with ⟨_, rfl⟩ | ⟨a, ha, _, rfl⟩
    · omega
    · omega
  have := send_ok B b1 S last (gd d k) c k x W h.two.rs (by rw [I.ss]; omega) (by rw [I.vol]; omega) (gd64 hd (by omega)) (wi_find I.ss I.gd (by omega)) hx (fun W' hW' => by
    rcases D.of with ⟨rfl, rfl⟩ | ⟨a, ha, rfl, rfl⟩
    · exact came_zero B b1 1 S W' hW'
    · obtain ⟨xa, ha1, _, ha3, _⟩ := inv_at I (show a < k + 1 by omega)
      have := came_snap B b1 1 S (gd d a) a xa W' hW' (by rw [I.ss]; omega) (gd_pos hd.1 a) (wi_find I.ss I.gd (by omega)) ha1
      rw [ha3] at this
      exact this) hc
  rw [I.vol, hxt] at this
  refine this.mono ?_
  rintro e w' ⟨rfl, r, f⟩
  exact ⟨rfl, h.left hB r f⟩

theorem c_form (hB : B = w.heap.size) (tx : ByteArray) (hp : ∀ W, Calls Try.prog 63 #[.string tx] W fun e w' => e = .returned (.tuple #[zeroS, .bool false]) ∧ Fr [] W w') (h : CS B b1 b2 bm w W d n k S r v) :
    Calls Try.prog 32 #[.pointer (some ⟨b2, 0, none⟩), .string tx] W fun e w' => e = .returned (.tuple #[.int .i64 0, .int .i64 2]) ∧ CS B b1 b2 bm w w' d n k S r v ∧ Fr (foot b2 r) W w' := by
  refine (receive_form B b2 r tx W h.two.rr hp).mono ?_
  rintro e w' ⟨rfl, r, f⟩
  exact ⟨rfl, h.right hB r f (fun k hk => Or.inl hk), f⟩

theorem c_write (hB : B = w.heap.size) (hn : 1 ≤ n ∧ n ≤ 16) (hm : m ≤ 10000) (R : RI r S d n k q last m) (h : CS B b1 b2 bm w W d n k S r v) :
    Calls Try.prog 22 #[.pointer (some ⟨b2, 0, none⟩), .int .i64 0, .string ⟨#[108, 111, 115, 116]⟩] W fun e w' => e = .returned (.int .i64 0) ∧ ∃ lv, CS B b1 b2 bm w w' d n k S ((r.write 0 lostB).noted 87 (wtext 0 lostB) lv) v := by
  refine (write_ok B b2 r 0 lostB W h.two.rr (by rw [R.vol]; omega) (by have := R.lg; omega)).mono ?_
  rintro e w' ⟨rfl, lv, r', f, a⟩
  exact ⟨rfl, lv, h.right hB r' f (write_foot a)⟩

theorem c_recv (hB : B = w.heap.size) (hd : 1 ≤ d ∧ d ≤ 999) (hn : 1 ≤ n ∧ n ≤ 16) (hk : k < 12) (hm : m ≤ 10000) (R : RI r S d n k q last m) (D : SD S r0 d n k last c xt) (h : CS B b1 b2 bm w W d n k S r v) :
    Calls Try.prog 32 #[.pointer (some ⟨b2, 0, none⟩), .string (streamT last (gd d k) xt n (flw S (gd d k) c n))] W fun e w' => e = .returned (.tuple #[.int .i64 (gd d k), .int .i64 0]) ∧ ∃ sv lv, CS B b1 b2 bm w w' d n k S (r.recv last (gd d k) xt (flw S (gd d k) c n) (streamT last (gd d k) xt n (flw S (gd d k) c n)) sv lv) v := by
  have hlen := D.may.len
  have hll := flw_lt S (gd d k) c n
  have hsz := streamT_size last (gd d k) xt n (flw S (gd d k) c n)
  have hg : In64 (gd d k) := gd64 hd (by omega)
  have hlast : In64 last := by
    have := D.may.cf
    exact ⟨by omega, by omega⟩
  refine (receive_ok B b2 r _ W h.two.rr last (gd d k) xt (flw S (gd d k) c n) (fun W' => by rw [R.vol]; exact parse_stream _ _ _ _ _ D.may W') (by have := R.ss; have := R.le; omega) (by rw [R.ms]; simp) (fi_none _ _ (fun x hx => ?_)) (by rw [R.ms]; rfl) R.lst.symm (fun j hj => by rw [R.vol]; exact hll _ (List.getElem_mem hj)) hlen hlast hg (by rw [R.cm]; have := R.le; omega) (by rw [R.vol]; omega) (by rw [R.vol]; have := R.cnt; have := R.le; unfold maxLen; omega) (by have := R.lg; omega) (by omega)).mono ?_
  · obtain ⟨a, ha, e⟩ := R.gs x hx
    simp only [beq_eq_false_iff_ne, ne_eq]
    rw [e]
    intro e2
    have := gd_in e2
    omega
  · rintro e w' ⟨rfl, sv, lv, r', f, a1, a2⟩
    refine ⟨rfl, sv, lv, h.right hB r' f (fun j hj => ?_)⟩
    simp only [foot, Sto.recv, Sto.noted, Sto.add, List.mem_append, List.mem_cons, List.not_mem_nil, or_false, Option.mem_toList] at hj ⊢
    rcases hj with ((h1 | h1) | h1) | h1
    · exact Or.inl (Or.inl (Or.inl (Or.inl h1)))
    · exact (a1 j h1).imp_left (fun h2 => Or.inl (Or.inl (Or.inr h2)))
    · exact Or.inl (Or.inl (Or.inr h1))
    · exact (a2 j h1).imp_left Or.inr

theorem strs_x {l l' : List Ct} (h : l.map Ct.x = l'.map Ct.x) : strs l = strs l' := by
  have e : ∀ l : List Ct, strs l = (l.map Ct.x).map B4.str := fun l => by simp [strs]
  rw [e, e, h]

theorem c_is (hB : B = w.heap.size) (hd : 1 ≤ d ∧ d ≤ 999) (hn : 1 ≤ n ∧ n ≤ 16) (hk : k < 12) (R : RI r S d n (k + 1) q (gd d k) m) (h : CS B b1 b2 bm w W d n k S r v) :
    Calls Try.prog 21 #[.agg #[.int .i64 (gd d k), .int .i64 (10 * (k : Int)), v], .pointer (some ⟨b2, 0, none⟩)] W fun e w' => e = .returned (.bool true) ∧ CS B b1 b2 bm w w' d n k S r v := by
  have hR : ∀ j : Nat, j < n → (r.th (gd d k) (j : Int)).x = (S.th (gd d k) (j : Int)).x := by
    rcases R.was with ⟨_, e⟩ | ⟨a, ha, e, h2⟩
    · have := gd_pos hd.1 k
      rw [e] at this
      simp at this
    · exact h2
  have e : strs ((List.range r.vol.length).map fun j : Nat => r.th (gd d k) (j : Int)) = thS S (gd d k) n := by
    unfold thS
    refine strs_x ?_
    rw [R.vol, List.map_map, List.map_map]
    refine List.map_congr_left (fun j hj => ?_)
    exact hR j (List.mem_range.1 hj)
  have hin : ∃ x ∈ r.ss, (x.guid == gd d k) = true := by
    have hl := R.lst
    unfold lastG at hl
    cases hq : r.ss.getLast? with
    | none =>
      rw [hq] at hl
      have := gd_pos hd.1 k
      simp at hl
      rw [← hl] at this
      simp at this
    | some x =>
      rw [hq] at hl
      refine ⟨x, List.mem_of_getLast? hq, ?_⟩
      simp at hl
      simp [hl]
  refine (is_any B b2 r (gd d k) (10 * (k : Int)) v B W h.two.rr (by have := R.ss; have := R.le; omega) (gd64 hd (by omega)) hin (by rw [R.vol]; omega) (by rw [e, R.vol]; exact h.img) (own_foot h.two.rr h.img (by decide))).mono ?_
  rintro e w' ⟨rfl, r', f⟩
  exact ⟨rfl, h.right hB r' f (fun k hk => Or.inl hk)⟩

theorem c_vol (hB : B = w.heap.size) (hn : 1 ≤ n ∧ n ≤ 16) (hv : r.vol.length = n) (h : CS B b1 b2 bm w W d n k S r v) :
    Calls Try.prog 33 #[.pointer (some ⟨b2, 0, none⟩), .int .i64 n] W fun e w' => ∃ v2, e = .returned (.tuple #[v2, .bool true]) ∧ w'.ownsRow W.heap.size 9 1 v2 n (strs r.vol) ∧ CS B b1 b2 bm w w' d n k S r v := by
  have := volume_any B b2 r W h.two.rr (by omega)
  rw [hv] at this
  refine this.mono ?_
  rintro e w' ⟨v2, rfl, o, r', f⟩
  exact ⟨v2, rfl, o, h.right hB r' f (fun k hk => Or.inl hk)⟩

theorem c_dup (hB : B = w.heap.size) (hd : 1 ≤ d ∧ d ≤ 999) (hk : k < 12) (R : RI r S d n (k + 1) q (gd d k) m) (D : SD S r0 d n k last c xt) {base : Nat} {v2 : Value} {ys : List Value} (ho : W.ownsRow base 9 1 v2 n ys) (h : CS B b1 b2 bm w W d n k S r v) :
    Calls Try.prog 32 #[.pointer (some ⟨b2, 0, none⟩), .string (streamT last (gd d k) xt n (flw S (gd d k) c n))] W fun e w' => e = .returned (.tuple #[.int .i64 0, .int .i64 7]) ∧ CS B b1 b2 bm w w' d n k S r v ∧ w'.ownsRow base 9 1 v2 n ys := by
  have hin : ∃ x ∈ r.ss, (x.guid == gd d k) = true := by
    have hl := R.lst
    unfold lastG at hl
    cases hq : r.ss.getLast? with
    | none =>
      rw [hq] at hl
      have := gd_pos hd.1 k
      simp at hl
      rw [← hl] at this
      simp at this
    | some x =>
      rw [hq] at hl
      refine ⟨x, List.mem_of_getLast? hq, ?_⟩
      simp at hl
      simp [hl]
  obtain ⟨j, hj, e, _⟩ := fi_some (p := fun y : Sn => y.guid == gd d k) r.ss 0 hin
  rw [Nat.zero_add] at e
  refine (receive_dup B b2 r _ W h.two.rr last (gd d k) xt (flw S (gd d k) c n) j (fun W' => by rw [R.vol]; exact parse_stream _ _ _ _ _ D.may W') (by have := R.ss; have := R.le; omega) e).mono ?_
  rintro e w' ⟨rfl, r', f⟩
  exact ⟨rfl, h.right hB r' f (fun k hk => Or.inl hk), own_fr ho f (own_foot h.two.rr ho (by decide))⟩

/-- The first block of the image, and of the volume of the store that took it in. -/
theorem c_first (hn : 1 ≤ n) (hv : r.vol.length = n) (hx : (r.vol.getD 0 Ct.zero).x = (S.th (gd d k) 0).x) : (strs r.vol)[0]? = some (S.th (gd d k) 0).x.str ∧ (thS S (gd d k) n)[0]? = some (S.th (gd d k) 0).x.str := by
  have h0 : 0 < r.vol.length := by omega
  refine ⟨?_, ?_⟩
  · unfold strs
    rw [List.getElem?_map, List.getElem?_eq_getElem h0]
    rw [List.getD_eq_getElem?_getD, List.getElem?_eq_getElem h0] at hx
    simp at hx ⊢
    rw [hx]
  · unfold thS strs
    have h1 : 0 < n := by omega
    simp [h1]
end Go.Proofs.Ythdhegmlknpllaa
