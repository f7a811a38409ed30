import Derived.Test.YthdhegmlknpllaaGreatM07
import Derived.Test.YthdhegmlknpllaaGreatM02
import Derived.Laws.ResultCell
namespace Go.Proofs.YthdhegmlknpllaaGreat
open Go.RowKit Go.Maps Go.MuLone
set_option maxHeartbeats 400000 in
theorem isGuid_any (z : Int) (w : World) :
  Calls Tryz.prog 131 #[.int .i64 z] w fun e w' => e = .returned (.bool (decide (1 ≤ z) && decide (z ≤ 999999999))) ∧ w' = w := by
 by_cases h1 : 1 ≤ z
 · rw [show decide (1 ≤ z) = true by simpa using h1]
   go_enter Tryz.func131, Tryz.ntmps131
   go_wp2
   go_ret
   exact ⟨by simp, rfl⟩
 · rw [show decide (1 ≤ z) = false by simpa using h1]
   go_enter Tryz.func131, Tryz.ntmps131
   go_wp2
   go_ret
   exact ⟨rfl, rfl⟩
def least (l : List (Int × B4)) : Nat → Int
 | 0 => 0
 | k + 1 => (l.map Prod.fst)[k]?.getD 0 + 1
def Rises (nb : Int) (l : List (Int × B4)) : Prop := ∀ k (h : k < l.length), least l k ≤ l[k].1 ∧ l[k].1 < nb
theorem least_succ (l : List (Int × B4)) (k : Nat) (h : k < l.length) : least l (k + 1) = l[k].1 + 1 := by simp [least, h]
theorem least_nonneg {nb : Int} {l : List (Int × B4)} (h : Rises nb l) : ∀ k, k ≤ l.length → 0 ≤ least l k
 | 0, _ => Int.le_refl _
 | k + 1, hk => by
  have ih := least_nonneg h k (by omega)
  have := (h k (by omega)).1
  rw [least_succ l k (by omega)]
  omega
theorem wrap_fit' {x : Int} (h1 : -9223372036854775808 ≤ x) (h2 : x ≤ 9223372036854775807) : IntKind.i64.wrap x = x := by simp [IntKind.wrap, IntKind.bits, IntKind.signed]; omega
set_option maxRecDepth 100000 in
set_option maxHeartbeats 3200000 in
theorem mayBe_ok (f t m nb : Int) (l : List (Int × B4)) (v : Value) (base : Nat) (w : World) (ho : w.ownsRow base 137 5 v l.length (blC l)) (hl : l.length ≤ 16)
  (hf : f = 0 ∨ (1 ≤ f ∧ f ≤ 999999999)) (ht : 1 ≤ t ∧ t ≤ 999999999) (hft : f ≠ t) (hm : 0 ≤ m ∧ m ≤ 1073741824) (hnb : 1 ≤ nb ∧ nb ≤ 16) (h0 : f = 0 → (l.length : Int) = nb) (hr : Rises nb l) :
  Calls Tryz.prog 108 #[.agg #[.int .i64 f, .int .i64 t, .int .i64 m, .int .i64 nb, v]] w fun e w' => e = .returned (.bool true) ∧ Fr [] w w' := by
 obtain ⟨ao, cap, hsh⟩ := own_shape ho
 subst hsh
 obtain ⟨bx, hbx⟩ : ∃ bx, w.heap.size = bx := ⟨_, rfl⟩
 obtain ⟨n, hn⟩ : ∃ n, l.length = n := ⟨_, rfl⟩
 rw [hn] at hl h0
 obtain ⟨w0, hw0⟩ : ∃ w0, w.alloc (.cells #[.int .i64 f, .int .i64 t, .int .i64 m, .int .i64 nb, .slice ao n cap] 135) = w0 := ⟨_, rfl⟩
 have b0 : w0.heap[bx]? = some (.cells #[.int .i64 f, .int .i64 t, .int .i64 m, .int .i64 nb, .slice ao n cap] 135 (0, 0)) := by rw [← hw0, ← hbx]; exact heap_alloc_new w _
 have F0 : Fr [] w w0 := by rw [← hw0]; exact (Fr.refl _ _).alloc _
 have e0 : w0.cell? ⟨bx, 0, none⟩ = some (.int .i64 f) := by rw [cell_of b0]; rfl
 have e1 : w0.cell? ⟨bx, 1, none⟩ = some (.int .i64 t) := by rw [cell_of b0]; rfl
 have e2 : w0.cell? ⟨bx, 2, none⟩ = some (.int .i64 m) := by rw [cell_of b0]; rfl
 have e3 : w0.cell? ⟨bx, 3, none⟩ = some (.int .i64 nb) := by rw [cell_of b0]; rfl
 have e4 : w0.cell? ⟨bx, 4, none⟩ = some (.slice ao n cap) := by rw [cell_of b0]; rfl
 have HB : Hid (w0.heap[bx]? = some (.cells #[.int .i64 f, .int .i64 t, .int .i64 m, .int .i64 nb, .slice ao n cap] 135 (0, 0)) ∧ Fr [] w w0 ∧ w.ownsRow base 137 5 (.slice ao l.length cap) l.length (blC l) ∧ l.length = n ∧ Rises nb l) := ⟨b0, F0, ho, hn, hr⟩
 have HG1 : Hid (∀ W, Calls Tryz.prog 131 #[.int .i64 t] W fun e w' => e = .returned (.bool true) ∧ w' = W) := fun W => by
  have := isGuid_any t W
  rw [show (decide (1 ≤ t) && decide (t ≤ 999999999)) = true by simp; omega] at this
  exact this
 have tft : (f == t) = false := by simpa using hft
 have tm1 : (0 : Int) ≤ m := hm.1
 have tm2 : m ≤ 1073741824 := hm.2
 have tn1 : ¬ nb < 1 := by omega
 have tn2 : ¬ (16 : Int) < nb := by omega
 rw [hn] at ho ⊢
 have hw0' := hw0
 clear hw0 ho b0 F0 hn hr
 by_cases hf0 : f = 0
 · have tn3 : ((n : Int) != nb) = false := by simp [h0 hf0]
   have HNB : Hid ((n : Int) = nb) := h0 hf0
   subst hf0
   clear hft
   go_enter Tryz.func108, Tryz.ntmps108
   go_wp2_with (go_at_call 131; refine (HG1.out _).mono ?_; rintro e w' ⟨rfl, hw'⟩; have hw' := hw'.symm; subst hw')
   clear tn3 h0 hf
   go_loopw [5, 67] (fun ls i wr => ∃ k : Nat, k ≤ n ∧ i = .int .i64 k ∧ ls = .int .i64 (least l k) ∧ Hid (Fr [] w0 wr)) (fun _ i _ => n - (intOf i).toNat)
   case atStart => exact ⟨0, Nat.zero_le _, rfl, rfl, Fr.refl _ _⟩
   case round =>
    obtain ⟨k, hk, rfl, rfl, HK⟩ := hrel
    obtain ⟨W3, hW3⟩ : ∃ W3, W3 = wr := ⟨_, rfl⟩
    subst hW3
    clear e0 e1 e2 e3 e4 hw0'
    by_cases hlt : k < n
    · have hltz : (k : Int) < (n : Int) := by omega
      have hltn : (k : Int) < nb := by have := HNB.out; omega
      have hll : k < l.length := by rw [HB.out.2.2.2.1]; exact hlt
      have hor := own_fr' HB.out.2.2.1 (HB.out.2.1.tr HK.out)
      obtain ⟨lg, hlg, hc9, hcc⟩ := own_addr' hor (by omega)
      subst hlg
      have hb5 := blC_get l k hll
      obtain ⟨x, hx⟩ : ∃ x, l[k] = x := ⟨_, rfl⟩
      rw [hx] at hb5
      have d0 : W3.cell? ⟨lg, k * 5, none⟩ = some (.int .i64 x.1) := by rw [hcc _ (by omega)]; exact hb5.1
      have d1 : W3.cell? ⟨lg, k * 5 + 1, none⟩ = some (.int .u8 (x.2.a.toNat : Int)) := by rw [hcc _ (by omega)]; exact hb5.2.1
      have d2 : W3.cell? ⟨lg, k * 5 + 2, none⟩ = some (.int .u8 (x.2.b.toNat : Int)) := by rw [hcc _ (by omega)]; exact hb5.2.2.1
      have d3 : W3.cell? ⟨lg, k * 5 + 3, none⟩ = some (.int .u8 (x.2.c.toNat : Int)) := by rw [hcc _ (by omega)]; exact hb5.2.2.2.1
      have d4 : W3.cell? ⟨lg, k * 5 + 4, none⟩ = some (.int .u8 (x.2.d.toNat : Int)) := by rw [hcc _ (by omega)]; exact hb5.2.2.2.2
      have x3 : W3.cell? ⟨bx, 3, none⟩ = some (.int .i64 nb) := by
       have hh : W3.heap[bx]? = _ := (HK.out.block bx (Array.getElem?_eq_some_iff.1 HB.out.1).1 (by simp)).trans HB.out.1
       rw [cell_of hh]
       rfl
      have lbx : bx < W3.heap.size := World.block_lt_of_cell? _ _ x3
      have hrk := HB.out.2.2.2.2 k hll
      rw [hx] at hrk
      have hsx : least l (k + 1) = x.1 + 1 := by rw [least_succ l k hll, hx]
      have hge0 : 0 ≤ least l k := least_nonneg HB.out.2.2.2.2 k (by omega)
      obtain ⟨z, hz⟩ : ∃ z, least l k = z := ⟨_, rfl⟩
      rw [hz] at hrk hge0
      rw [hz]
      have r1 : ¬ x.1 < z := by omega
      have r2 : ¬ nb ≤ x.1 := by omega
      have e5 : IntKind.i64.wrap (x.1 + 1) = x.1 + 1 := wrap_fit' (by omega) (by omega)
      have HSX : Hid (least l (k + 1) = x.1 + 1) := hsx
      clear hcc hb5 hx hor hsx hz
      go_wp2
      go_roundw
      case rel => exact ⟨k + 1, by omega, by go_num, by rw [HSX.out], HK.out.alloc _⟩
      case measure => simp [intOf]; omega
    · have hkk : k = n := by omega
      subst hkk
      have hgen : ¬ (k : Int) < nb := by have := HNB.out; omega
      go_wp2
      go_ret
      exact ⟨rfl, HB.out.2.1.tr HK.out⟩
 · have hfr : 1 ≤ f ∧ f ≤ 999999999 := by
     rcases hf with h | h
     · exact absurd h hf0
     · exact h
   have HG0 : Hid (∀ W, Calls Tryz.prog 131 #[.int .i64 f] W fun e w' => e = .returned (.bool true) ∧ w' = W) := fun W => by
    have := isGuid_any f W
    rw [show (decide (1 ≤ f) && decide (f ≤ 999999999)) = true by simp; omega] at this
    exact this
   have tf0 : (f == 0) = false := by simpa using hf0
   clear hft
   go_enter Tryz.func108, Tryz.ntmps108
   go_wp2_with (first
    | (go_at_call_of 131 (Value.int .i64 f); refine (HG0.out _).mono ?_; rintro e w' ⟨rfl, hw'⟩; have hw' := hw'.symm; subst hw')
    | (go_at_call_of 131 (Value.int .i64 t); refine (HG1.out _).mono ?_; rintro e w' ⟨rfl, hw'⟩; have hw' := hw'.symm; subst hw'))
   go_loopw [5, 67] (fun ls i wr => ∃ k : Nat, k ≤ n ∧ i = .int .i64 k ∧ ls = .int .i64 (least l k) ∧ Hid (Fr [] w0 wr)) (fun _ i _ => n - (intOf i).toNat)
   case atStart => exact ⟨0, Nat.zero_le _, rfl, rfl, Fr.refl _ _⟩
   case round =>
    obtain ⟨k, hk, rfl, rfl, HK⟩ := hrel
    obtain ⟨W3, hW3⟩ : ∃ W3, W3 = wr := ⟨_, rfl⟩
    subst hW3
    clear e0 e1 e2 e3 e4 hw0'
    by_cases hlt : k < n
    · have hltz : (k : Int) < (n : Int) := by omega
      have hll : k < l.length := by rw [HB.out.2.2.2.1]; exact hlt
      have hor := own_fr' HB.out.2.2.1 (HB.out.2.1.tr HK.out)
      obtain ⟨lg, hlg, hc9, hcc⟩ := own_addr' hor (by omega)
      subst hlg
      have hb5 := blC_get l k hll
      obtain ⟨x, hx⟩ : ∃ x, l[k] = x := ⟨_, rfl⟩
      rw [hx] at hb5
      have d0 : W3.cell? ⟨lg, k * 5, none⟩ = some (.int .i64 x.1) := by rw [hcc _ (by omega)]; exact hb5.1
      have d1 : W3.cell? ⟨lg, k * 5 + 1, none⟩ = some (.int .u8 (x.2.a.toNat : Int)) := by rw [hcc _ (by omega)]; exact hb5.2.1
      have d2 : W3.cell? ⟨lg, k * 5 + 2, none⟩ = some (.int .u8 (x.2.b.toNat : Int)) := by rw [hcc _ (by omega)]; exact hb5.2.2.1
      have d3 : W3.cell? ⟨lg, k * 5 + 3, none⟩ = some (.int .u8 (x.2.c.toNat : Int)) := by rw [hcc _ (by omega)]; exact hb5.2.2.2.1
      have d4 : W3.cell? ⟨lg, k * 5 + 4, none⟩ = some (.int .u8 (x.2.d.toNat : Int)) := by rw [hcc _ (by omega)]; exact hb5.2.2.2.2
      have x3 : W3.cell? ⟨bx, 3, none⟩ = some (.int .i64 nb) := by
       have hh : W3.heap[bx]? = _ := (HK.out.block bx (Array.getElem?_eq_some_iff.1 HB.out.1).1 (by simp)).trans HB.out.1
       rw [cell_of hh]
       rfl
      have lbx : bx < W3.heap.size := World.block_lt_of_cell? _ _ x3
      have hrk := HB.out.2.2.2.2 k hll
      rw [hx] at hrk
      have hsx : least l (k + 1) = x.1 + 1 := by rw [least_succ l k hll, hx]
      have hge0 : 0 ≤ least l k := least_nonneg HB.out.2.2.2.2 k (by omega)
      obtain ⟨z, hz⟩ : ∃ z, least l k = z := ⟨_, rfl⟩
      rw [hz] at hrk hge0
      rw [hz]
      have r1 : ¬ x.1 < z := by omega
      have r2 : ¬ nb ≤ x.1 := by omega
      have e5 : IntKind.i64.wrap (x.1 + 1) = x.1 + 1 := wrap_fit' (by omega) (by omega)
      have HSX : Hid (least l (k + 1) = x.1 + 1) := hsx
      clear hcc hb5 hx hor hsx hz
      go_wp2
      go_roundw
      case rel => exact ⟨k + 1, by omega, by go_num, by rw [HSX.out], HK.out.alloc _⟩
      case measure => simp [intOf]; omega
    · have hkk : k = n := by omega
      subst hkk
      go_wp2
      go_ret
      exact ⟨rfl, HB.out.2.1.tr HK.out⟩
def zeroS : Value := .agg #[.int .i64 0, .int .i64 0, .int .i64 0, .int .i64 0, .slice none 0 0]
def ckAt (t : ByteArray) : Nat := t.size - 4
set_option maxRecDepth 100000 in
set_option maxHeartbeats 1600000 in
theorem parse_bad (t : ByteArray) (w : World) (ht : t.size ≤ 2000000) (hc : ((t.extract (ckAt t) t.size).toList == (chk (t.extract 0 (ckAt t)).data.toList).ba.toList) = false) :
  Calls Tryz.prog 79 #[.string t] w fun e w' => e = .returned (.tuple #[zeroS, .bool false]) ∧ Fr [] w w' := by
 obtain ⟨c, hcc⟩ : ∃ c, ckAt t = c := ⟨_, rfl⟩
 have hcz : c ≤ t.size := by rw [← hcc]; unfold ckAt; omega
 have hce : c = t.size - 4 := by rw [← hcc]; rfl
 rw [hcc] at hc
 have HC : Hid (∀ W, Calls Tryz.prog 107 #[.string (t.extract 0 c)] W fun e w' => e = .returned (.string (chk (t.extract 0 c).data.toList).ba) ∧ Fr [] W w') := fun W => checkOf_any _ W (by rw [ByteArray.size_extract]; omega)
 obtain ⟨ck, hck⟩ : ∃ ck, (chk (t.extract 0 c).data.toList).ba = ck := ⟨_, rfl⟩
 rw [hck] at HC hc
 obtain ⟨n, hn⟩ : ∃ n, t.size = n := ⟨_, rfl⟩
 rw [hn] at hcz hce hc ht
 have hmx : max (0 : Int) (IntKind.i64.wrap ((n : Int) - 4)) = (c : Int) := by
  rw [wrap_fit' (by omega) (by omega)]
  omega
 have hmy : max (0 : Int) ((n : Int) - 4) = (c : Int) := by omega
 have c0 : (0 : Int) ≤ (c : Int) := by omega
 have c1 : (c : Int) ≤ (n : Int) := by omega
 obtain ⟨w0, hw0⟩ : ∃ w0, w.alloc (.cells #[.int .i64 0, .int .i64 0, .int .i64 0, .int .i64 0, .slice none 0 0] 135) = w0 := ⟨_, rfl⟩
 obtain ⟨bx, hbx⟩ : ∃ bx, w.heap.size = bx := ⟨_, rfl⟩
 have b0 : w0.heap[bx]? = some (.cells #[.int .i64 0, .int .i64 0, .int .i64 0, .int .i64 0, .slice none 0 0] 135 (0, 0)) := by rw [← hw0, ← hbx]; exact heap_alloc_new w _
 have HB : Hid (w0.heap[bx]? = some (.cells #[.int .i64 0, .int .i64 0, .int .i64 0, .int .i64 0, .slice none 0 0] 135 (0, 0)) ∧ Fr [] w w0 ∧ w.heap.size = bx) := ⟨b0, by rw [← hw0]; exact (Fr.refl _ _).alloc _, hbx⟩
 have hw0' := hw0
 clear hw0 b0 hck hcc hmx hmy
 by_cases h4 : 5 ≤ n
 · have hnc : (n : Int) - 4 = (c : Int) := by omega
   have cpos : ¬ (c : Int) ≤ 0 := by omega
   have cpos2 : (0 : Int) < (c : Int) := by omega
   clear hce
   go_enter Tryz.func79, Tryz.ntmps79
   go_wp2
   go_region_with
    (first
     | (go_at_call 107; refine (HC.out _).mono ?_; rintro e w5 ⟨rfl, f5⟩; have f5' : Fr [] w0 w5 := ((Fr.refl [] w0).drew).tr f5; have x5 : w5.heap[bx]? = _ := (f5'.block bx (Array.getElem?_eq_some_iff.1 HB.out.1).1 (by simp)).trans HB.out.1; have y0 : w5.cell? ⟨bx, 0, none⟩ = some (.int .i64 0) := (by rw [cell_of x5]; rfl); have y1 : w5.cell? ⟨bx, 1, none⟩ = some (.int .i64 0) := (by rw [cell_of x5]; rfl); have y2 : w5.cell? ⟨bx, 2, none⟩ = some (.int .i64 0) := (by rw [cell_of x5]; rfl); have y3 : w5.cell? ⟨bx, 3, none⟩ = some (.int .i64 0) := (by rw [cell_of x5]; rfl); have y4 : w5.cell? ⟨bx, 4, none⟩ = some (.slice none 0 0) := (by rw [cell_of x5]; rfl); have z0 := froz_of x5 0; have z1 := froz_of x5 1; have z2 := froz_of x5 2; have z3 := froz_of x5 3; have z4 := froz_of x5 4; clear x5 f5))
   all_goals
    go_wp2
    refine bodyPost_ret (v := .tuple #[zeroS, .bool false]) ?_ rfl ⟨rfl, ?_⟩
    · rw [results_cell_tmp rfl]
      go_simp
      rfl
    · have hbs : w.heap.size ≤ bx := Nat.le_of_eq HB.out.2.2
      exact ((((((HB.out.2.1.tr f5').setCell _ (Or.inr hbs)).setCell _ (Or.inr hbs)).setCell _ (Or.inr hbs)).setCell _ (Or.inr hbs)).setCell _ (Or.inr hbs))
 · have hneg : (n : Int) - 4 ≤ 0 := by omega
   have hc0 : c = 0 := by omega
   subst hc0
   have e00 : t.extract 0 0 = ByteArray.empty := by simp
   rw [e00] at HC
   clear hce e00
   go_enter Tryz.func79, Tryz.ntmps79
   go_wp2
   go_region_with
    (first
     | (go_at_call 107; refine (HC.out _).mono ?_; rintro e w5 ⟨rfl, f5⟩; have f5' : Fr [] w0 w5 := ((Fr.refl [] w0).drew).tr f5; have x5 : w5.heap[bx]? = _ := (f5'.block bx (Array.getElem?_eq_some_iff.1 HB.out.1).1 (by simp)).trans HB.out.1; have y0 : w5.cell? ⟨bx, 0, none⟩ = some (.int .i64 0) := (by rw [cell_of x5]; rfl); have y1 : w5.cell? ⟨bx, 1, none⟩ = some (.int .i64 0) := (by rw [cell_of x5]; rfl); have y2 : w5.cell? ⟨bx, 2, none⟩ = some (.int .i64 0) := (by rw [cell_of x5]; rfl); have y3 : w5.cell? ⟨bx, 3, none⟩ = some (.int .i64 0) := (by rw [cell_of x5]; rfl); have y4 : w5.cell? ⟨bx, 4, none⟩ = some (.slice none 0 0) := (by rw [cell_of x5]; rfl); have z0 := froz_of x5 0; have z1 := froz_of x5 1; have z2 := froz_of x5 2; have z3 := froz_of x5 3; have z4 := froz_of x5 4; clear x5 f5))
   all_goals
    go_wp2
    refine bodyPost_ret (v := .tuple #[zeroS, .bool false]) ?_ rfl ⟨rfl, ?_⟩
    · rw [results_cell_tmp rfl]
      go_simp
      rfl
    · have hbs : w.heap.size ≤ bx := Nat.le_of_eq HB.out.2.2
      exact ((((((HB.out.2.1.tr f5').setCell _ (Or.inr hbs)).setCell _ (Or.inr hbs)).setCell _ (Or.inr hbs)).setCell _ (Or.inr hbs)).setCell _ (Or.inr hbs))
end Go.Proofs.YthdhegmlknpllaaGreat
