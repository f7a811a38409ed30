import Derived.Test.YthdhegmlknpllaaGreatM25
/-
  The check tells one turned byte.
-/
namespace Go.Proofs.YthdhegmlknpllaaGreat
open Go.RowKit Go.Maps Go.MuLone

theorem prime_inv (a : Nat) (h : a < 4294967296) : a * 16777619 % 4294967296 * 899433627 % 4294967296 = a := by
  rw [Nat.mul_mod, Nat.mod_mod, ← Nat.mul_mod, Nat.mul_assoc]
  have e : 16777619 * 899433627 = 1 + 4294967296 * 3513497 := by decide
  rw [e, Nat.mul_add, Nat.mul_one, ← Nat.mul_assoc, Nat.mul_comm a 4294967296, Nat.mul_assoc, Nat.add_mul_mod_self_left]
  exact Nat.mod_eq_of_lt h

theorem xor_lt {c : Nat} (x : UInt8) (h : c < 4294967296) : c ^^^ x.toNat < 4294967296 := by
  have hx : x.toNat < 256 := UInt8.toNat_lt x
  exact Nat.xor_lt_two_pow (n := 32) h (by omega)

theorem fnvS_inj {c c' : Nat} {x x' : UInt8} (hc : c < 4294967296) (hc' : c' < 4294967296) (h : fnvS c x = fnvS c' x') : c ^^^ x.toNat = c' ^^^ x'.toNat := by
  unfold fnvS at h
  have h1 := prime_inv _ (xor_lt x hc)
  have h2 := prime_inv _ (xor_lt x' hc')
  rw [h] at h1
  exact h1.symm.trans h2

theorem fnvS_left {c c' : Nat} (x : UInt8) (hc : c < 4294967296) (hc' : c' < 4294967296) (h : c ≠ c') : fnvS c x ≠ fnvS c' x := fun e => by
  have := fnvS_inj hc hc' e
  apply h
  have h3 : (c ^^^ x.toNat) ^^^ x.toNat = (c' ^^^ x.toNat) ^^^ x.toNat := by rw [this]
  rwa [Nat.xor_assoc, Nat.xor_self, Nat.xor_zero, Nat.xor_assoc, Nat.xor_self, Nat.xor_zero] at h3

theorem fnvS_right {c : Nat} {x x' : UInt8} (hc : c < 4294967296) (h : x ≠ x') : fnvS c x ≠ fnvS c x' := fun e => by
  have := fnvS_inj hc hc e
  apply h
  have h3 : c ^^^ (c ^^^ x.toNat) = c ^^^ (c ^^^ x'.toNat) := by rw [this]
  rw [← Nat.xor_assoc, Nat.xor_self, Nat.zero_xor, ← Nat.xor_assoc, Nat.xor_self, Nat.zero_xor] at h3
  exact UInt8.toNat_inj.1 h3

theorem fnvS_lt (c : Nat) (x : UInt8) : fnvS c x < 4294967296 := by
  unfold fnvS
  exact Nat.mod_lt _ (by decide)

theorem fold_ne : ∀ (l : List UInt8) (c c' : Nat), c < 4294967296 → c' < 4294967296 → c ≠ c' → l.foldl fnvS c ≠ l.foldl fnvS c'
  | [], _, _, _, _, h => h
  | x :: r, c, c', hc, hc', h => by
    rw [List.foldl_cons, List.foldl_cons]
    exact fold_ne r _ _ (fnvS_lt c x) (fnvS_lt c' x) (fnvS_left x hc hc' h)

theorem fold_set : ∀ (l : List UInt8) (k : Nat) (y : UInt8) (hk : k < l.length) (c : Nat), c < 4294967296 → y ≠ l[k] → (l.set k y).foldl fnvS c ≠ l.foldl fnvS c
  | [], _, _, h, _, _, _ => by simp at h
  | x :: r, 0, y, _, c, hc, h => by
    rw [List.set_cons_zero, List.foldl_cons, List.foldl_cons]
    exact fold_ne r _ _ (fnvS_lt c y) (fnvS_lt c x) (fnvS_right hc (by simpa using h))
  | x :: r, k + 1, y, hk, c, hc, h => by
    rw [List.set_cons_succ, List.foldl_cons, List.foldl_cons]
    exact fold_set r k y (by simpa using hk) _ (fnvS_lt c x) (by simpa using h)

/-- One turned byte turns the check. -/
theorem fnv_set (l : List UInt8) (k : Nat) (y : UInt8) (hk : k < l.length) (h : y ≠ l[k]) : fnv (l.set k y) ≠ fnv l := fold_set l k y hk _ (by decide) h

theorem n4_inj {a b : Nat} (ha : a < 4294967296) (hb : b < 4294967296) (h : n4 (a : Int) = n4 (b : Int)) : a = b := by
  unfold n4 at h
  simp only [B4.mk.injEq] at h
  obtain ⟨h1, h2, h3, h4⟩ := h
  have e1 := byt_eq ((a : Int) / 16777216)
  have e2 := byt_eq ((a : Int) / 65536)
  have e3 := byt_eq ((a : Int) / 256)
  have e4 := byt_eq (a : Int)
  rw [h1, ← byt_eq] at e1
  rw [h2, ← byt_eq] at e2
  rw [h3, ← byt_eq] at e3
  rw [h4, ← byt_eq] at e4
  omega

theorem chk_ne {l l' : List UInt8} (h : fnv l ≠ fnv l') : chk l ≠ chk l' := fun e => h (n4_inj (fnv_lt l) (fnv_lt l') e)
end Go.Proofs.YthdhegmlknpllaaGreat
