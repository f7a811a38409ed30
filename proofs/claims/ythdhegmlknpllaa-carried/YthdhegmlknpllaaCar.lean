/-
  The walk of tetherkeep's Carried (7).
-/
import Derived.Test.YthdhegmlknpllaaCsw
import Derived.Test.YthdhegmlknpllaaFro
import Derived.Deep.RegionHeld3
namespace Go.Proofs.Ythdhegmlknpllaa
open Go.RowKit Go.Maps Go.MuLone

theorem two_made {w w1 w2 : World} {b1 b2 : Nat} {s r : Sto} (h1 : Rep w.heap.size w1 b1 0 s) (f1 : Fr [] w w1) (h2 : Rep w1.heap.size w2 b2 0 r) (f2 : Fr [] w1 w2) : Two w.heap.size b1 b2 w w2 s r :=
  ⟨h1.kept0 f2, h2.base f1.size, fun k hk hm => by have := (h1.lt k hk).2; have := (h2.lt k hm).1; omega, f1.tr f2⟩

/-- Another snapshot is taken. -/
theorem c_takes {B b1 b2 : Nat} {w W w4 : World} {d : Int} {n k q m : Nat} {s r : Sto} {v : Value} {last : Int} (hB : B = w.heap.size) (hd : 1 ≤ d ∧ d ≤ 999) (hn : 1 ≤ n ∧ n ≤ 16) (hk : k < 12) (T2 : Two B b1 b2 w W s r) (I : InvI s d n k) (U : WU s d n k) (R : RI r s d n k q last m) (hT : TakesAll B b1 s d n k (10 * (k : Int)) W w4 v) :
    ∃ S x c, Two B b1 b2 w w4 S r ∧ InvI S d n (k + 1) ∧ WU S d n (k + 1) ∧ RI r S d n k q last m ∧ S.ss[k]? = some x ∧ SD S r d n k last c x.time ∧ w4.ownsRow B 9 1 v n (thS S (gd d k) n) := by
  obtain ⟨ops, s1, sv, lv, hW, hle, r4, i4, f4, ft, o4⟩ := hT
  have U' := U.takes I hW (10 * (k : Int)) sv lv
  have R' := R.takes I hW (10 * (k : Int)) sv lv
  obtain ⟨x, hx, _, _, _⟩ := inv_at i4 (show k < k + 1 by omega)
  have hj : k < ((s1.snap (10 * (k : Int)) sv).noted 83 (n4 (10 * (k : Int))).ba lv).ss.length := (List.getElem?_eq_some_iff.1 hx).1
  have hxe : ((s1.snap (10 * (k : Int)) sv).noted 83 (n4 (10 * (k : Int))).ba lv).ss[k] = x := (List.getElem?_eq_some_iff.1 hx).2
  have hxt := (i4.cd k hj).2.2
  rw [hxe] at hxt
  obtain ⟨c, hc⟩ := sd_of U' R' hd hn hk x.time hxt
  refine ⟨_, x, c, T2.left hB r4 f4 ft, i4, U', R', hx, hc, ?_⟩
  have e : thS ((s1.snap (10 * (k : Int)) sv).noted 83 (n4 (10 * (k : Int))).ba lv) (gd d k) n = strs s1.vol := by
    unfold thS
    congr 1
    have hl : s1.vol.length = n := by
      obtain ⟨l0, rfl⟩ := hW.eq
      show (wvol s.came s.vol ops).length = n
      rw [wvol_len, I.vol]
    apply List.ext_getElem
    · simp [hl]
    · intro j h1 h2
      rw [List.getElem_map, List.getElem_range, (taken_th I hW (10 * (k : Int)) sv lv).1 j (by omega), List.getD_eq_getElem?_getD, List.getElem?_eq_getElem h2]
      rfl
  rw [e]
  refine ⟨o4.1, ?_⟩
  rcases o4.2 with h0 | ⟨g, cap, cur, h1, h2, r⟩
  · exact .inl h0
  · exact .inr ⟨g, cap, cur, h1, Nat.le_trans (by rw [hB]; exact T2.fr.size) h2, r⟩

theorem xor_byte (x : UInt8) (z : Nat) (h : 1 ≤ z ∧ z < 256) : ∃ y : UInt8, y ≠ x ∧ bits .xor .u8 (x.toNat : Int) (z : Int) = (y.toNat : Int) := by
  have hx : x.toNat < 256 := x.toNat_lt
  have hlt : x.toNat ^^^ z < 2 ^ 8 := Nat.xor_lt_two_pow (by omega) (by omega)
  refine ⟨UInt8.ofNat (x.toNat ^^^ z), fun e => ?_, ?_⟩
  · have e2 : x.toNat ^^^ z = x.toNat := by
      have := congrArg UInt8.toNat e
      rw [UInt8.toNat_ofNat', Nat.mod_eq_of_lt (by simpa using hlt)] at this
      exact this
    have e3 : x.toNat ^^^ (x.toNat ^^^ z) = x.toNat ^^^ x.toNat := by rw [e2]
    rw [← Nat.xor_assoc, Nat.xor_self, Nat.zero_xor] at e3
    omega
  · have h1 : (BitVec.ofInt 8 (x.toNat : Int)).toNat = x.toNat := by
      rw [BitVec.ofInt_natCast, BitVec.toNat_ofNat]; exact Nat.mod_eq_of_lt (by omega)
    have h2 : (BitVec.ofInt 8 (z : Int)).toNat = z := by
      rw [BitVec.ofInt_natCast, BitVec.toNat_ofNat]; exact Nat.mod_eq_of_lt (by omega)
    show IntKind.u8.wrap ((BitVec.ofInt 8 (x.toNat : Int) ^^^ BitVec.ofInt 8 (z : Int)).toNat : Int) = _
    rw [BitVec.toNat_xor, h1, h2, UInt8.toNat_ofNat', Nat.mod_eq_of_lt (by simpa using hlt)]
    simp [IntKind.wrap, IntKind.bits, IntKind.signed]
    omega

/-- A byte of a row of bytes is written. -/
theorem BRow.set {w : World} {base g cap : Nat} {l : List UInt8} (h : BRow w base (.slice (some ⟨g, 0, none⟩) l.length cap) l) (p : Nat) (hp : p < l.length) (y : UInt8) : BRow (w.setCell ⟨g, p, none⟩ (.int .u8 (y.toNat : Int))) base (.slice (some ⟨g, 0, none⟩) l.length cap) (l.set p y) := by
  obtain ⟨g', cap', e, hb, hg, hc, h1, h2⟩ := h
  obtain ⟨rfl, rfl⟩ : g = g' ∧ cap = cap' := by
    have := Value.slice.inj e
    exact ⟨by simpa using this.1, this.2.2⟩
  have hcell : (w.cell? ⟨g, p, none⟩).isSome = true := (h2 p (by omega)).1
  refine ⟨g, cap, by rw [List.length_set], hb, by simpa using hg, by rw [List.length_set]; exact hc, fun j hj => ?_, fun j hj => ?_⟩
  · rw [List.length_set] at hj
    by_cases hjp : j = p
    · subst hjp
      rw [World.cell?_setCell_same _ _ _ (Option.isSome_iff_exists.1 hcell).choose_spec]
      simp [logC, u8, hp]
    · rw [World.cell?_setCell_other _ _ _ _ (by simp), h1 j hj]
      simp [logC, List.getElem?_set_ne (Ne.symm hjp)]
  · by_cases hjp : j = p
    · subst hjp
      refine ⟨by rw [World.cell?_setCell_same _ _ _ (Option.isSome_iff_exists.1 hcell).choose_spec]; rfl, ?_⟩
      rw [World.frozen?_setCell]
      exact (h2 j hj).2
    · refine ⟨by rw [World.cell?_setCell_other _ _ _ _ (by simp)]; exact (h2 j hj).1, ?_⟩
      rw [World.frozen?_setCell]
      exact (h2 j hj).2
end Go.Proofs.Ythdhegmlknpllaa
