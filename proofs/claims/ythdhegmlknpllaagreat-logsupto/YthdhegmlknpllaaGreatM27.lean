import Derived.Test.YthdhegmlknpllaaGreatM02
import Derived.Test.YthdhegmlknpllaaGreatM13
namespace Go.Proofs.YthdhegmlknpllaaGreat
open Go.RowKit Go.Maps Go.MuLone
set_option maxRecDepth 100000 in
set_option maxHeartbeats 800000 in
theorem rnumberOf_any (t : ByteArray) (w : World) (ht : t.size ≤ 4) :
  Calls Tryz.prog 110 #[.string t] w fun e w' => e = .returned (.int .i64 (valN t.data.toList : Int)) ∧ w' = w := by
 obtain ⟨n, hn⟩ : ∃ n, t.size = n := ⟨_, rfl⟩
 have hlen : t.data.toList.length = n := by rw [Array.length_toList]; exact hn
 go_enter Tryz.func110, Tryz.ntmps110
 go_wp2
 go_loop [3, 4] (fun c i => ∃ (k : Nat), k ≤ n ∧ i = .int .i64 k ∧ c = .int .i64 (valN (t.data.toList.take k) : Int)) (fun _ i => n - (intOf i).toNat)
 case atStart => exact ⟨0, Nat.zero_le _, rfl, rfl⟩
 case round =>
  obtain ⟨k, hk, rfl, rfl⟩ := hrel
  by_cases hlt : k < n
  · have hltz : (k : Int) < (n : Int) := by omega
    have hv := valN_lt t.data.toList k (by omega)
    have hv2 : valN (t.data.toList.take k) < 16777216 := by
     have : 256 ^ k ≤ 256 ^ 3 := Nat.pow_le_pow_right (by omega) (by omega)
     omega
    have hx : t[k].toNat < 256 := UInt8.toNat_lt _
    have hs : valN (t.data.toList.take (k + 1)) = valN (t.data.toList.take k) * 256 + t[k].toNat := by
     rw [valN_succ _ _ (by omega)]
     rfl
    obtain ⟨V, hV⟩ : ∃ V, valN (t.data.toList.take k) = V := ⟨_, rfl⟩
    rw [hV] at hs hv2 ⊢
    have hw : IntKind.i64.wrap (256 * (V : Int)) = 256 * (V : Int) := by simp [IntKind.wrap, IntKind.bits, IntKind.signed]; omega
    have hw3 : IntKind.i64.wrap (256 * (V : Int) + (t[k].toNat : Int)) = 256 * (V : Int) + (t[k].toNat : Int) := by simp [IntKind.wrap, IntKind.bits, IntKind.signed]; omega
    clear hv hV
    go_wp2
    go_round
    case rel => exact ⟨k + 1, by omega, by go_num, by rw [hs]; congr 1; push_cast; omega⟩
    case measure => simp [intOf]; omega
  · have hkk : k = n := by omega
    subst hkk
    have e : t.data.toList.take k = t.data.toList := List.take_of_length_le (by omega)
    rw [e]
    go_wp2
    go_ret
    exact ⟨rfl, rfl⟩
theorem ofL_ext' {a b : ByteArray} (h : a.data.toList = b.data.toList) : a = b := by
 cases a; cases b
 simp at h
 exact congrArg _ (Array.ext' (by simpa using h))
def lob (n : Nat) : Nat → List UInt8
 | 0 => []
 | k + 1 => byt ((n / 256 ^ k : Nat) : Int) :: lob n k
theorem lob_len (n : Nat) : ∀ k, (lob n k).length = k
 | 0 => rfl
 | k + 1 => by simp [lob, lob_len n k]
set_option maxRecDepth 100000 in
set_option maxHeartbeats 800000 in
theorem rbytes_any (n m : Nat) (w : World) (hn : n < 4294967296) (hm : m ≤ 4) :
  Calls Tryz.prog 77 #[.int .i64 n, .int .i64 m] w fun e w' => e = .returned (.string ⟨(lob n m).toArray⟩) ∧ Fr [] w w' := by
 have hcv : ∀ (W : World) (z : Nat), (convert 74 9 (.slice (some ⟨W.heap.size, 0, none⟩) 1 1)).run Tryz.prog (W.alloc (.cells #[.int .u8 ((z : Int) % 256)] 5)) = .ok (.string ⟨#[byt (z : Int)]⟩) (W.alloc (.cells #[.int .u8 ((z : Int) % 256)] 5)) := fun W z => by
  have := run_convert_bytes_back (P := Tryz.prog) (W.alloc (.cells #[.int .u8 ((z : Int) % 256)] 5)) 74 9 5 ⟨W.heap.size, 0, none⟩ 1 [byt (z : Int)] Tryz.underlying74 Tryz.underlying5 Tryz.underlying9 (by
   intro j hj
   have hj' : j < 1 := hj
   obtain rfl : j = 0 := by omega
   have h8 := heap_alloc_new W (.cells #[.int .u8 ((z : Int) % 256)] 5)
   rw [show (⟨W.heap.size, 0, none⟩ : Addr).add 0 = ⟨W.heap.size, 0, none⟩ from rfl, cell_of h8, byt_eq]
   rfl)
  exact this
 go_enter Tryz.func77, Tryz.ntmps77
 go_wp2
 go_loopw [0, 5, 6] (fun c o i wr => ∃ (k : Nat), k ≤ m ∧ i = .int .i64 k ∧ c = .int .i64 ((n / 256 ^ k : Nat) : Int) ∧ o = .string ⟨(lob n k).toArray⟩ ∧ Hid (Fr [] w wr)) (fun _ _ i _ => m - (intOf i).toNat)
 case atStart => exact ⟨0, Nat.zero_le _, rfl, by simp, rfl, Fr.refl _ _⟩
 case round =>
  obtain ⟨k, hk, rfl, rfl, rfl, HF⟩ := hrel
  obtain ⟨W3, hW3⟩ : ∃ W3, W3 = wr := ⟨_, rfl⟩
  subst hW3
  have hN : n / 256 ^ k < 4294967296 := Nat.lt_of_le_of_lt (Nat.div_le_self _ _) hn
  have hN1 : n / 256 ^ (k + 1) = n / 256 ^ k / 256 := by rw [Nat.pow_succ, Nat.div_div_eq_div_mul]
  have ho : (⟨(lob n (k + 1)).toArray⟩ : ByteArray) = ⟨#[byt ((n / 256 ^ k : Nat) : Int)]⟩ ++ ⟨(lob n k).toArray⟩ := ofL_ext' (by simp [lob])
  obtain ⟨N, hNN⟩ : ∃ N, n / 256 ^ k = N := ⟨_, rfl⟩
  rw [hNN] at hN hN1 ho ⊢
  have hc3 := hcv W3 N
  by_cases hlt : k < m
  · have hltz : (k : Int) < (m : Int) := by omega
    have hll : ¬ 9223372036854775807 < 1 + (lob n k).length := by rw [lob_len]; omega
    go_wp2
    go_roundw
    case rel => exact ⟨k + 1, by omega, by go_num, by rw [hN1]; rfl, by rw [ho], HF.out.alloc _⟩
    case measure => simp [intOf]; omega
  · obtain rfl : k = m := by omega
    go_wp2
    go_ret
    exact ⟨rfl, HF.out⟩
theorem lob4 (n : Nat) : (⟨(lob n 4).toArray⟩ : ByteArray) = (n4 (n : Int)).ba := by
 simp only [lob, n4, B4.ba]
 simp
theorem lob1 (n : Nat) : (⟨(lob n 1).toArray⟩ : ByteArray) = ⟨#[byt (n : Int)]⟩ := by simp [lob]
theorem bits_xor_i64_nat (a b : Nat) (ha : a < 4294967296) (hb : b < 4294967296) : bits .xor .i64 (a : Int) (b : Int) = ((a ^^^ b : Nat) : Int) := by
 have hx : a ^^^ b < 2 ^ 32 := Nat.xor_lt_two_pow (by omega) (by omega)
 show IntKind.i64.wrap ((BitVec.ofInt 64 (a : Int) ^^^ BitVec.ofInt 64 (b : Int)).toNat : Int) = _
 rw [BitVec.toNat_xor, ofInt64 a ha, ofInt64 b hb]
 exact wrap64_nat _ (by omega)
set_option maxRecDepth 100000 in
set_option maxHeartbeats 800000 in
theorem rcheck_any (t : ByteArray) (w : World) (ht : t.size ≤ 2000000) :
  Calls Tryz.prog 78 #[.string t] w fun e w' => e = .returned (.string (chk t.data.toList).ba) ∧ Fr [] w w' := by
 obtain ⟨n, hn⟩ : ∃ n, t.size = n := ⟨_, rfl⟩
 go_enter Tryz.func78, Tryz.ntmps78
 go_wp2
 go_loop [3, 4] (fun c i => ∃ (k : Nat), k ≤ n ∧ i = .int .i64 k ∧ c = .int .i64 (fnv (t.data.toList.take k) : Int)) (fun _ i => n - (intOf i).toNat)
 case atStart => exact ⟨0, Nat.zero_le _, rfl, rfl⟩
 case round =>
  obtain ⟨k, hk, rfl, rfl⟩ := hrel
  by_cases hlt : k < n
  · have hltz : (k : Int) < (n : Int) := by omega
    have hl : k < t.data.toList.length := by rw [Array.length_toList]; exact (by omega : k < t.size)
    have hs := fnv_succ t.data.toList k hl
    have e : t.data.toList[k] = t[k] := by
     rw [Array.getElem_toList]
     rfl
    rw [e] at hs
    have hf := fnv_lt (t.data.toList.take k)
    have hx : t[k].toNat < 256 := UInt8.toNat_lt _
    obtain ⟨V, hV⟩ : ∃ V, fnv (t.data.toList.take k) = V := ⟨_, rfl⟩
    rw [hV] at hs hf ⊢
    have hb := bits_xor_i64_nat V t[k].toNat hf (by omega)
    have hxl : V ^^^ t[k].toNat < 4294967296 := Nat.xor_lt_two_pow (n := 32) (by omega) (by omega)
    unfold fnvS at hs
    obtain ⟨X, hX⟩ : ∃ X, V ^^^ t[k].toNat = X := ⟨_, rfl⟩
    rw [hX] at hb hs hxl
    have hw : IntKind.i64.wrap ((X : Int) * 16777619) = (X : Int) * 16777619 := wrap_fit ⟨by omega, by omega⟩
    have hm : (X : Int) * 16777619 % 4294967296 = ((X * 16777619 % 4294967296 : Nat) : Int) := by omega
    clear hV hX
    go_wp2
    go_round
    case rel => exact ⟨k + 1, by omega, by go_num, by rw [hs, ← hm]; try rfl⟩
    case measure => simp [intOf]; omega
  · have hkk : k = n := by omega
    subst hkk
    have e : t.data.toList.take k = t.data.toList := List.take_of_length_le (by rw [Array.length_toList]; exact Nat.le_of_eq hn)
    rw [e]
    have HU : Hid (∀ W, Calls Tryz.prog 77 #[.int .i64 (fnv t.data.toList : Int), .int .i64 4] W fun e w' => e = .returned (.string (chk t.data.toList).ba) ∧ Fr [] W w') := fun W => by
     have h8 := rbytes_any (fnv t.data.toList) 4 W (fnv_lt _) (by omega)
     rw [lob4] at h8
     exact h8
    obtain ⟨f, hff⟩ : ∃ f, fnv t.data.toList = f := ⟨_, rfl⟩
    rw [hff] at HU ⊢
    go_wp2_with (go_at_call 77; refine (HU.out _).mono ?_; rintro e w' ⟨rfl, f5⟩)
    go_ret
    exact ⟨rfl, f5⟩
def rcame (r : RSto) (g : Int) : Int :=
 match r.sh.find? (fun x => x.guid == g) with
 | some x => x.came
 | none => match r.ms.find? (fun x => x.1 == g) with
  | some m => m.2
  | none => -1
set_option maxRecDepth 100000 in
set_option maxHeartbeats 800000 in
theorem rcame_shot (B b : Nat) (s : RSto) (g : Int) (j : Nat) (x : RSh) (w : World) (h : RRep B w b s) (hl : s.sh.length ≤ 12) (hf : fi (fun y : RSh => y.guid == g) 0 s.sh = (j : Int)) (hx : s.sh[j]? = some x) :
  Calls Tryz.prog 76 #[.pointer (some ⟨b, 0, none⟩), .int .i64 g] w fun e w' => e = .returned (.int .i64 x.came) ∧ Fr [] w w' := by
 have H1 : Hid (Calls Tryz.prog 66 #[.pointer (some ⟨b, 0, none⟩), .int .i64 g] w fun e w' => e = .returned (.int .i64 j) ∧ w' = w) := by
  have h8 := rshot_any B b s g w h (by omega)
  rw [hf] at h8
  exact h8
 have hj : j < s.sh.length := (List.getElem?_eq_some_iff.1 hx).1
 obtain ⟨ao, cap, hsv⟩ := own_shape h.sh
 have ho := h.sh
 rw [hsv] at ho
 obtain ⟨gg, e', hcp, _⟩ := own_addr ho (by omega)
 subst e'
 have c36 : w.cell? ⟨b, 36, none⟩ = some (.slice (some ⟨gg, 0, none⟩) s.sh.length cap) := by rw [← hsv]; exact h.cells.2.2.2.2.1
 have c3 : w.cell? ⟨gg, j * 36 + 3, none⟩ = some (.int .i64 x.came) := by
  rw [h.shotC hsv j hj 3 (by omega), (List.getElem?_eq_some_iff.1 hx).2]
  rfl
 obtain ⟨n, hn⟩ : ∃ n, s.sh.length = n := ⟨_, rfl⟩
 obtain ⟨c, hc⟩ : ∃ c, x.came = c := ⟨_, rfl⟩
 rw [hn] at c36 hj hl
 rw [hc] at c3 ⊢
 have j0 : (0 : Int) ≤ (j : Int) := by omega
 have j1 : (j : Int) < (n : Int) := by omega
 clear h ho hx hf hsv hn hc
 go_enter Tryz.func76, Tryz.ntmps76
 go_wp2_with (first
  | (go_at_call 66; refine H1.out.mono ?_; rintro e w' ⟨rfl, hw'⟩; have hw'' := hw'.symm; subst hw''))
 go_ret
 exact ⟨rfl, by first | exact Fr.refl _ _ | exact (Fr.refl _ _).drew | exact (Fr.refl _ _).drewN _⟩
set_option maxRecDepth 100000 in
set_option maxHeartbeats 800000 in
theorem rcame_mark (B b : Nat) (s : RSto) (g : Int) (j : Nat) (m : Int × Int) (w : World) (h : RRep B w b s) (hl : s.sh.length ≤ 12) (hml : s.ms.length ≤ 12) (hf : fi (fun y : RSh => y.guid == g) 0 s.sh = -1) (hfm : fi (fun y : Int × Int => y.1 == g) 0 s.ms = (j : Int)) (hx : s.ms[j]? = some m) :
  Calls Tryz.prog 76 #[.pointer (some ⟨b, 0, none⟩), .int .i64 g] w fun e w' => e = .returned (.int .i64 m.2) ∧ Fr [] w w' := by
 have H1 : Hid (Calls Tryz.prog 66 #[.pointer (some ⟨b, 0, none⟩), .int .i64 g] w fun e w' => e = .returned (.int .i64 (-1)) ∧ w' = w) := by
  have h8 := rshot_any B b s g w h (by omega)
  rw [hf] at h8
  exact h8
 have H2 : Hid (Calls Tryz.prog 72 #[.pointer (some ⟨b, 0, none⟩), .int .i64 g] w fun e w' => e = .returned (.int .i64 j) ∧ w' = w) := by
  have h8 := rmark_any B b s g w h (by omega)
  rw [hfm] at h8
  exact h8
 have hj : j < s.ms.length := (List.getElem?_eq_some_iff.1 hx).1
 obtain ⟨ao, cap, hsv⟩ := own_shape h.ms
 have ho := h.ms
 rw [hsv] at ho
 obtain ⟨gg, e', hcp, hcc⟩ := own_addr ho (by omega)
 subst e'
 have c37 : w.cell? ⟨b, 37, none⟩ = some (.slice (some ⟨gg, 0, none⟩) s.ms.length cap) := by rw [← hsv]; exact h.cells.2.2.2.2.2
 have c3 : w.cell? ⟨gg, j * 2 + 1, none⟩ = some (.int .i64 m.2) := by
  rw [hcc _ (by omega), (mkC_get s.ms j hj).2, (List.getElem?_eq_some_iff.1 hx).2]
 obtain ⟨n, hn⟩ : ∃ n, s.ms.length = n := ⟨_, rfl⟩
 obtain ⟨c, hc⟩ : ∃ c, m.2 = c := ⟨_, rfl⟩
 rw [hn] at c37 hj hml
 rw [hc] at c3 ⊢
 have j0 : (0 : Int) ≤ (j : Int) := by omega
 have j1 : (j : Int) < (n : Int) := by omega
 clear h ho hx hf hfm hsv hn hc hcc
 go_enter Tryz.func76, Tryz.ntmps76
 go_wp2_with (first
  | (go_at_call 72; refine H2.out.mono ?_; rintro e w' ⟨rfl, hw'⟩; have hw'' := hw'.symm; subst hw'')
  | (go_at_call 66; refine H1.out.mono ?_; rintro e w' ⟨rfl, hw'⟩; have hw'' := hw'.symm; subst hw''))
 go_ret
 exact ⟨rfl, by first | exact Fr.refl _ _ | exact (Fr.refl _ _).drew | exact (Fr.refl _ _).drewN _⟩
set_option maxRecDepth 100000 in
set_option maxHeartbeats 800000 in
theorem rcame_none (B b : Nat) (s : RSto) (g : Int) (w : World) (h : RRep B w b s) (hl : s.sh.length ≤ 12) (hml : s.ms.length ≤ 12) (hf : fi (fun y : RSh => y.guid == g) 0 s.sh = -1) (hfm : fi (fun y : Int × Int => y.1 == g) 0 s.ms = -1) :
  Calls Tryz.prog 76 #[.pointer (some ⟨b, 0, none⟩), .int .i64 g] w fun e w' => e = .returned (.int .i64 (-1)) ∧ Fr [] w w' := by
 have H1 : Hid (Calls Tryz.prog 66 #[.pointer (some ⟨b, 0, none⟩), .int .i64 g] w fun e w' => e = .returned (.int .i64 (-1)) ∧ w' = w) := by
  have h8 := rshot_any B b s g w h (by omega)
  rw [hf] at h8
  exact h8
 have H2 : Hid (Calls Tryz.prog 72 #[.pointer (some ⟨b, 0, none⟩), .int .i64 g] w fun e w' => e = .returned (.int .i64 (-1)) ∧ w' = w) := by
  have h8 := rmark_any B b s g w h (by omega)
  rw [hfm] at h8
  exact h8
 clear h hf hfm
 go_enter Tryz.func76, Tryz.ntmps76
 go_wp2_with (first
  | (go_at_call 72; refine H2.out.mono ?_; rintro e w' ⟨rfl, hw'⟩; have hw'' := hw'.symm; subst hw'')
  | (go_at_call 66; refine H1.out.mono ?_; rintro e w' ⟨rfl, hw'⟩; have hw'' := hw'.symm; subst hw''))
 go_ret
 exact ⟨rfl, by first | exact Fr.refl _ _ | exact (Fr.refl _ _).drew | exact (Fr.refl _ _).drewN _⟩
def rnewest (r : RSto) : Int := match r.sh.getLast? with
 | some x => x.guid
 | none => 0
set_option maxRecDepth 100000 in
set_option maxHeartbeats 800000 in
theorem rnewest_any (B b : Nat) (s : RSto) (w : World) (h : RRep B w b s) (hl : s.sh.length ≤ 12) :
  Calls Tryz.prog 82 #[.pointer (some ⟨b, 0, none⟩)] w fun e w' => e = .returned (.int .i64 (rnewest s)) ∧ Fr [] w w' := by
 obtain ⟨ao, cap, hsv⟩ := own_shape h.sh
 have c36 : w.cell? ⟨b, 36, none⟩ = some (.slice ao s.sh.length cap) := by rw [← hsv]; exact h.cells.2.2.2.2.1
 by_cases h0 : s.sh.length = 0
 · have e : rnewest s = 0 := by
     have : s.sh = [] := List.length_eq_zero_iff.1 h0
     simp [rnewest, this]
   rw [h0] at c36
   rw [e]
   clear h hsv
   go_enter Tryz.func82, Tryz.ntmps82
   go_wp2
   go_ret
   exact ⟨rfl, by first | exact Fr.refl _ _ | exact (Fr.refl _ _).drew | exact (Fr.refl _ _).drewN _⟩
 · have ho := h.sh
   rw [hsv] at ho
   obtain ⟨gg, e', hcp, _⟩ := own_addr ho (by omega)
   subst e'
   obtain ⟨n, hn⟩ : ∃ n, s.sh.length = n + 1 := ⟨s.sh.length - 1, by omega⟩
   have hlast : s.sh.getLast? = some (s.sh[n]'(by omega)) := by
    have e2 : s.sh.length - 1 = n := by omega
    rw [List.getLast?_eq_getElem?, e2]
    exact List.getElem?_eq_getElem _
   have e : rnewest s = (s.sh[n]'(by omega)).guid := by simp [rnewest, hlast]
   have c3 : w.cell? ⟨gg, n * 36, none⟩ = some (.int .i64 (rnewest s)) := by
    have := h.shotC hsv n (by omega) 0 (by omega)
    rw [Nat.add_zero] at this
    rw [this, e]
    rfl
   obtain ⟨c, hc⟩ : ∃ c, rnewest s = c := ⟨_, rfl⟩
   rw [hn] at c36 hl
   rw [hc] at c3 ⊢
   have hz : (((n + 1 : Nat) : Int) == 0) = false := by simp; omega
   have hz1 : IntKind.i64.wrap ((n : Int) + 1 - 1) = (n : Int) := by rw [wrap_fit ⟨by omega, by omega⟩]; omega
   clear h ho hsv hn hc e hlast h0
   go_enter Tryz.func82, Tryz.ntmps82
   go_wp2
   go_quiet (fail)
   go_wp2
   go_ret
   exact ⟨rfl, by first | exact Fr.refl _ _ | exact (Fr.refl _ _).drew | exact (Fr.refl _ _).drewN _⟩
end Go.Proofs.YthdhegmlknpllaaGreat
