import Derived.Test.YthdhegmlknpllaaGreatM02
/-
  The walk of wire.checkOf (84).
-/
namespace Go.Proofs.YthdhegmlknpllaaGreat
open Go.RowKit Go.Maps Go.MuLone

/-- The check, of so many bytes. -/
def fnvS (c : Nat) (x : UInt8) : Nat := (c ^^^ x.toNat) * 16777619 % 4294967296
def fnv (l : List UInt8) : Nat := l.foldl fnvS 2166136261
def chk (l : List UInt8) : B4 := n4 (fnv l : Int)

theorem fnv_succ (l : List UInt8) (k : Nat) (h : k < l.length) : fnv (l.take (k + 1)) = fnvS (fnv (l.take k)) l[k] := by
  unfold fnv
  rw [List.take_succ_eq_append_getElem h, List.foldl_append, List.foldl_cons, List.foldl_nil]
theorem fnv_lt' : ∀ (l : List UInt8) (c : Nat), c < 4294967296 → l.foldl fnvS c < 4294967296
  | [], _, h => h
  | x :: r, c, _ => by
    rw [List.foldl_cons]
    exact fnv_lt' r _ (by unfold fnvS; omega)
theorem fnv_lt (l : List UInt8) : fnv l < 4294967296 := fnv_lt' l _ (by omega)

theorem bits_xor_u32_nat (a b : Nat) (ha : a < 4294967296) (hb : b < 4294967296) : bits .xor .u32 (a : Int) (b : Int) = ((a ^^^ b : Nat) : Int) := by
  have hx : a ^^^ b < 2 ^ 32 := Nat.xor_lt_two_pow (by omega) (by omega)
  have h1 : (BitVec.ofInt 32 (a : Int)).toNat = a := by
    rw [BitVec.ofInt_natCast, BitVec.toNat_ofNat]; exact Nat.mod_eq_of_lt (by omega)
  have h2 : (BitVec.ofInt 32 (b : Int)).toNat = b := by
    rw [BitVec.ofInt_natCast, BitVec.toNat_ofNat]; exact Nat.mod_eq_of_lt (by omega)
  show IntKind.u32.wrap ((BitVec.ofInt 32 (a : Int) ^^^ BitVec.ofInt 32 (b : Int)).toNat : Int) = _
  rw [BitVec.toNat_xor, h1, h2]
  simp [IntKind.wrap, IntKind.bits, IntKind.signed]
  omega

theorem fnv_step (t : ByteArray) (k : Nat) (h : k < t.size) : bits .xor .u32 (fnv (t.data.toList.take k) : Int) ((t[k].toNat : Int) % 4294967296) * 16777619 % 4294967296 = (fnv (t.data.toList.take (k + 1)) : Int) := by
  have hl : k < t.data.toList.length := by rw [Array.length_toList]; exact h
  have hx : t[k].toNat < 256 := t[k].toNat_lt
  rw [fnv_succ _ _ hl, show ((t[k].toNat : Int) % 4294967296) = ((t[k].toNat : Nat) : Int) by omega, bits_xor_u32_nat _ _ (fnv_lt _) (by omega)]
  unfold fnvS
  have e : t.data.toList[k] = t[k] := by
    rw [Array.getElem_toList]
    rfl
  rw [e]
  omega

set_option maxRecDepth 100000 in
set_option maxHeartbeats 800000 in
theorem checkOf_any (t : ByteArray) (w : World) (ht : t.size ≤ 2000000) :
    Calls Tryz.prog 107 #[.string t] w fun e w' => e = .returned (.string (chk t.data.toList).ba) ∧ Fr [] w w' := by
  obtain ⟨n, hn⟩ : ∃ n, t.size = n := ⟨_, rfl⟩
  go_enter Tryz.func107, Tryz.ntmps107
  go_wp2
  go_loop [3, 7] (fun c i => ∃ (k : Nat), k ≤ n ∧ i = .int .i64 k ∧ c = .int .u32 (fnv (t.data.toList.take k) : Int)) (fun _ i => n - (intOf i).toNat)
  case atStart => exact ⟨0, Nat.zero_le _, rfl, rfl⟩
  case round =>
    obtain ⟨k, hk, rfl, rfl⟩ := hrel
    by_cases hlt : k < n
    · have hltz : (k : Int) < (n : Int) := by omega
      have hs := fnv_step t k (by omega)
      go_wp2
      go_round
      case rel => exact ⟨k + 1, by omega, by go_num, by rw [← hs]⟩
      case measure => simp [intOf]; omega
    · have hkk : k = n := by omega
      subst hkk
      have e : t.data.toList.take k = t.data.toList := List.take_of_length_le (by rw [Array.length_toList]; exact Nat.le_of_eq hn)
      rw [e]
      have HU : Hid (∀ W, Calls Tryz.prog 22 #[.int .i64 (fnv t.data.toList : Int)] W fun e w' => e = .returned (.string (chk t.data.toList).ba) ∧ Fr [] W w') := fun W => number_any (fnv t.data.toList : Int) W
      have hf := fnv_lt t.data.toList
      obtain ⟨f, hff⟩ : ∃ f, fnv t.data.toList = f := ⟨_, rfl⟩
      rw [hff] at hf HU ⊢
      have hw : IntKind.i64.wrap (f : Int) = (f : Int) := by simp [IntKind.wrap, IntKind.bits, IntKind.signed]; omega
      have hw2 : wrap64 (f : Int) = (f : Int) := by unfold wrap64; omega
      go_wp2_with (go_at_call 22; (try rw [hw2]); refine (HU.out _).mono ?_; rintro e w' ⟨rfl, f5⟩)
      go_ret
      exact ⟨rfl, f5⟩
end Go.Proofs.YthdhegmlknpllaaGreat
