import Derived.Test.YthdhegmlknpllaaGreatM02
/-
  The walks of wire's Reader: NewReader (85), Text (86), Number (87), Byte (63), Ended (72), Left (92), valueOf (133).
-/
namespace Go.Proofs.YthdhegmlknpllaaGreat
open Go.RowKit Go.Maps Go.MuLone

/-- The number that bytes are, the highest first. -/
def valN (l : List UInt8) : Nat := l.foldl (fun v x => v * 256 + x.toNat) 0
theorem valN_succ (l : List UInt8) (k : Nat) (h : k < l.length) : valN (l.take (k + 1)) = valN (l.take k) * 256 + l[k].toNat := by
  unfold valN
  rw [List.take_succ_eq_append_getElem h, List.foldl_append, List.foldl_cons, List.foldl_nil]
theorem valN_lt (l : List UInt8) : ∀ k, k ≤ l.length → valN (l.take k) < 256 ^ k
  | 0, _ => by simp [valN]
  | k + 1, h => by
    have ih := valN_lt l k (by omega)
    have hx : (l[k]'(by omega)).toNat < 256 := UInt8.toNat_lt _
    rw [valN_succ l k (by omega), Nat.pow_succ]
    omega

set_option maxRecDepth 100000 in
theorem ofInt64 (z : Nat) (h : z < 4294967296) : (BitVec.ofInt 64 (z : Int)).toNat = z := by
  rw [BitVec.ofInt_natCast, BitVec.toNat_ofNat]
  exact Nat.mod_eq_of_lt (Nat.lt_of_lt_of_le h (by decide))
theorem wrap64_nat (z : Nat) (h : z < 4294967296) : IntKind.i64.wrap (z : Int) = (z : Int) := by
  simp [IntKind.wrap, IntKind.bits, IntKind.signed]
  omega
set_option maxRecDepth 100000 in
theorem or_bits (v x : Nat) (hv : v < 16777216) (hx : x < 256) : bits .or .i64 ((v : Int) * 256) (x : Int) = ((v * 256 + x : Nat) : Int) := by
  have hl : v * 256 < 4294967296 := by omega
  have hlt : v * 256 + x < 4294967296 := by omega
  have e2 : (v : Int) * 256 = ((v * 256 : Nat) : Int) := by omega
  have e : v * 256 ||| x = v * 256 + x := by
    have := Nat.shiftLeft_add_eq_or_of_lt (b := x) (i := 8) (by omega) v
    rw [Nat.shiftLeft_eq] at this
    exact this.symm
  rw [e2]
  generalize v * 256 = z at hl hlt e
  show IntKind.i64.wrap ((BitVec.ofInt 64 (z : Int) ||| BitVec.ofInt 64 (x : Int)).toNat : Int) = _
  rw [BitVec.toNat_or, ofInt64 z hl, ofInt64 x (by omega), e]
  exact wrap64_nat _ hlt

set_option maxRecDepth 100000 in
set_option maxHeartbeats 800000 in
theorem value_any (t : ByteArray) (w : World) (ht : t.size ≤ 4) :
    Calls Tryz.prog 111 #[.string t] w fun e w' => e = .returned (.int .i64 (valN t.data.toList : Int)) ∧ w' = w := by
  obtain ⟨n, hn⟩ : ∃ n, t.size = n := ⟨_, rfl⟩
  have hlen : t.data.toList.length = n := by rw [Array.length_toList]; exact hn
  go_enter Tryz.func111, Tryz.ntmps111
  go_wp2
  go_loop [3, 7] (fun c i => ∃ (k : Nat), k ≤ n ∧ i = .int .i64 k ∧ c = .int .i64 (valN (t.data.toList.take k) : Int)) (fun _ i => n - (intOf i).toNat)
  case atStart => exact ⟨0, Nat.zero_le _, rfl, rfl⟩
  case round =>
    obtain ⟨k, hk, rfl, rfl⟩ := hrel
    by_cases hlt : k < n
    · have hltz : (k : Int) < (n : Int) := by omega
      have hv := valN_lt t.data.toList k (by omega)
      have hv2 : valN (t.data.toList.take k) < 16777216 := by
        have : 256 ^ k ≤ 256 ^ 3 := Nat.pow_le_pow_right (by omega) (by omega)
        omega
      have hx : t[k].toNat < 256 := UInt8.toNat_lt _
      have hs : valN (t.data.toList.take (k + 1)) = valN (t.data.toList.take k) * 256 + t[k].toNat := by
        rw [valN_succ _ _ (by omega)]
        rfl
      have hb := or_bits (valN (t.data.toList.take k)) t[k].toNat hv2 hx
      rw [← hs] at hb
      obtain ⟨V, hV⟩ : ∃ V, valN (t.data.toList.take k) = V := ⟨_, rfl⟩
      rw [hV] at hb hv2 ⊢
      have hw : IntKind.i64.wrap ((V : Int) * 256) = (V : Int) * 256 := by simp [IntKind.wrap, IntKind.bits, IntKind.signed]; omega
      clear hs hv hV
      go_wp2
      go_round
      case rel => exact ⟨k + 1, by omega, by go_num, by rw [← hb]⟩
      case measure => simp [intOf]; omega
    · have hkk : k = n := by omega
      subst hkk
      have e : t.data.toList.take k = t.data.toList := List.take_of_length_le (by omega)
      rw [e]
      go_wp2
      go_ret
      exact ⟨rfl, rfl⟩

/-- What Text reads, and what it leaves. -/
def rdT (t : ByteArray) (n : Nat) : ByteArray := if t.size < n then ⟨#[]⟩ else t.extract 0 n
def rdL (t : ByteArray) (n : Nat) : ByteArray := if t.size < n then ⟨#[]⟩ else t.extract n t.size
def rdS (t : ByteArray) (sh : Bool) (n : Nat) : Bool := if t.size < n then true else sh

/-- A reader in memory. -/
def Rdr (w : World) (rb : Nat) (t : ByteArray) (sh : Bool) : Prop := w.heap[rb]? = some (.cells #[.string t, .bool sh] 166 (0, 0))
theorem Rdr.cells {w : World} {rb : Nat} {t : ByteArray} {sh : Bool} (h : Rdr w rb t sh) : w.cell? ⟨rb, 0, none⟩ = some (.string t) ∧ w.cell? ⟨rb, 1, none⟩ = some (.bool sh) ∧ w.frozen? ⟨rb, 0, none⟩ = false ∧ w.frozen? ⟨rb, 1, none⟩ = false := by
  unfold Rdr at h
  exact ⟨by rw [cell_of h]; rfl, by rw [cell_of h]; rfl, froz_of h _, froz_of h _⟩

set_option maxHeartbeats 400000 in
theorem newReader_any (t : ByteArray) (w : World) :
    Calls Tryz.prog 84 #[.string t] w fun e w' => e = .returned (.pointer (some ⟨w.heap.size, 0, none⟩)) ∧ Rdr w' w.heap.size t false ∧ Fr [] w w' := by
  go_enter Tryz.func84, Tryz.ntmps84
  go_wp2
  go_ret
  exact ⟨rfl, heap_alloc_new w _, (Fr.refl _ _).alloc _⟩

set_option maxHeartbeats 400000 in
theorem left_any (rb : Nat) (t : ByteArray) (sh : Bool) (w : World) (h : Rdr w rb t sh) :
    Calls Tryz.prog 89 #[.pointer (some ⟨rb, 0, none⟩)] w fun e w' => e = .returned (.int .i64 t.size) ∧ w' = w := by
  obtain ⟨c0, c1, f0, f1⟩ := h.cells
  clear h
  go_enter Tryz.func89, Tryz.ntmps89
  go_wp2
  go_ret
  exact ⟨rfl, rfl⟩

set_option maxHeartbeats 400000 in
theorem ended_any (rb : Nat) (t : ByteArray) (sh : Bool) (w : World) (h : Rdr w rb t sh) :
    Calls Tryz.prog 87 #[.pointer (some ⟨rb, 0, none⟩)] w fun e w' => e = .returned (.bool (decide (t.size = 0) && !sh)) ∧ w' = w := by
  obtain ⟨c0, c1, f0, f1⟩ := h.cells
  have HLf := left_any rb t sh w h
  clear h
  obtain ⟨n, hn⟩ : ∃ n, t.size = n := ⟨_, rfl⟩
  rw [hn] at HLf ⊢
  clear hn
  by_cases h0 : n = 0
  · subst h0
    go_enter Tryz.func87, Tryz.ntmps87
    go_wp2_with (go_at_call 89; refine HLf.mono ?_; rintro e w' ⟨rfl, hw'⟩; have hw' := hw'.symm; subst hw')
    go_ret
    exact ⟨by simp, rfl⟩
  · have h1 : ¬ ((n : Int) = 0) := by omega
    have h2 : ((n : Int) == 0) = false := by simpa using h1
    go_enter Tryz.func87, Tryz.ntmps87
    go_wp2_with (go_at_call 89; refine HLf.mono ?_; rintro e w' ⟨rfl, hw'⟩; have hw' := hw'.symm; subst hw')
    go_ret
    exact ⟨by simp [h0], rfl⟩

set_option maxRecDepth 100000 in
set_option maxHeartbeats 800000 in
theorem rtext_any (rb : Nat) (t : ByteArray) (sh : Bool) (n : Nat) (w : World) (h : Rdr w rb t sh) (hn : n ≤ 1000000) (_ht : t.size ≤ 1000000000) :
    Calls Tryz.prog 88 #[.pointer (some ⟨rb, 0, none⟩), .int .i64 n] w fun e w' => e = .returned (.string (rdT t n)) ∧ Rdr w' rb (rdL t n) (rdS t sh n) ∧ Fr [rb] w w' := by
  obtain ⟨c0, c1, f0, f1⟩ := h.cells
  have H : Hid (Rdr w rb t sh) := h
  unfold rdT rdL rdS
  by_cases hlt : t.size < n
  · rw [if_pos hlt, if_pos hlt, if_pos hlt]
    clear h
    go_enter Tryz.func88, Tryz.ntmps88
    go_wp2
    go_ret
    refine ⟨rfl, ?_, ((Fr.refl _ _).setCell _ (Or.inl (by simp))).setCell _ (Or.inl (by simp))⟩
    have h1 := heap_setCell_same w rb 0 _ _ (.string ⟨#[]⟩) H.out
    have h2 := heap_setCell_same _ rb 1 _ _ (.bool true) h1
    unfold Rdr
    rw [h2]
    rfl
  · rw [if_neg hlt, if_neg hlt, if_neg hlt]
    clear h
    go_enter Tryz.func88, Tryz.ntmps88
    go_wp2
    go_ret
    refine ⟨rfl, ?_, (Fr.refl _ _).setCell _ (Or.inl (by simp))⟩
    have h1 := heap_setCell_same w rb 0 _ _ (.string (t.extract n t.size)) H.out
    unfold Rdr
    rw [h1]
    rfl

theorem rdT_size (t : ByteArray) (n : Nat) : (rdT t n).size ≤ n := by
  unfold rdT
  split
  · exact Nat.zero_le _
  · rw [ByteArray.size_extract]; omega
theorem rdL_size (t : ByteArray) (n : Nat) : (rdL t n).size ≤ t.size := by
  unfold rdL
  split
  · exact Nat.zero_le _
  · rw [ByteArray.size_extract]; omega

set_option maxHeartbeats 400000 in
theorem rnumber_any (rb : Nat) (t : ByteArray) (sh : Bool) (w : World) (h : Rdr w rb t sh) (ht : t.size ≤ 1000000000) :
    Calls Tryz.prog 86 #[.pointer (some ⟨rb, 0, none⟩)] w fun e w' => e = .returned (.int .i64 (valN (rdT t 4).data.toList : Int)) ∧ Rdr w' rb (rdL t 4) (rdS t sh 4) ∧ Fr [rb] w w' := by
  have HT : Hid (Calls Tryz.prog 88 #[.pointer (some ⟨rb, 0, none⟩), .int .i64 4] w fun e w' => e = .returned (.string (rdT t 4)) ∧ Rdr w' rb (rdL t 4) (rdS t sh 4) ∧ Fr [rb] w w') := rtext_any rb t sh 4 w h (by omega) ht
  have HV : Hid (∀ W, Calls Tryz.prog 111 #[.string (rdT t 4)] W fun e w' => e = .returned (.int .i64 (valN (rdT t 4).data.toList : Int)) ∧ w' = W) := fun W => value_any (rdT t 4) W (rdT_size t 4)
  obtain ⟨r, hr⟩ : ∃ r, rdT t 4 = r := ⟨_, rfl⟩
  rw [hr] at HT HV ⊢
  clear h hr
  go_enter Tryz.func86, Tryz.ntmps86
  go_wp2_with (first
    | (go_at_call 88; refine HT.out.mono ?_; rintro e w2 ⟨rfl, r2, f2⟩)
    | (go_at_call 111; refine (HV.out _).mono ?_; rintro e w' ⟨rfl, hw'⟩; have hw' := hw'.symm; subst hw'))
  go_ret
  exact ⟨rfl, r2, f2⟩

set_option maxHeartbeats 400000 in
theorem rbyte_any (rb : Nat) (t : ByteArray) (sh : Bool) (w : World) (h : Rdr w rb t sh) (ht : t.size ≤ 1000000000) :
    Calls Tryz.prog 85 #[.pointer (some ⟨rb, 0, none⟩)] w fun e w' => e = .returned (.int .i64 (valN (rdT t 1).data.toList : Int)) ∧ Rdr w' rb (rdL t 1) (rdS t sh 1) ∧ Fr [rb] w w' := by
  have HT : Hid (Calls Tryz.prog 88 #[.pointer (some ⟨rb, 0, none⟩), .int .i64 1] w fun e w' => e = .returned (.string (rdT t 1)) ∧ Rdr w' rb (rdL t 1) (rdS t sh 1) ∧ Fr [rb] w w') := rtext_any rb t sh 1 w h (by omega) ht
  have HV : Hid (∀ W, Calls Tryz.prog 111 #[.string (rdT t 1)] W fun e w' => e = .returned (.int .i64 (valN (rdT t 1).data.toList : Int)) ∧ w' = W) := fun W => value_any (rdT t 1) W (by have := rdT_size t 1; omega)
  obtain ⟨r, hr⟩ : ∃ r, rdT t 1 = r := ⟨_, rfl⟩
  rw [hr] at HT HV ⊢
  clear h hr
  go_enter Tryz.func85, Tryz.ntmps85
  go_wp2_with (first
    | (go_at_call 88; refine HT.out.mono ?_; rintro e w2 ⟨rfl, r2, f2⟩)
    | (go_at_call 111; refine (HV.out _).mono ?_; rintro e w' ⟨rfl, hw'⟩; have hw' := hw'.symm; subst hw'))
  go_ret
  exact ⟨rfl, r2, f2⟩
end Go.Proofs.YthdhegmlknpllaaGreat
