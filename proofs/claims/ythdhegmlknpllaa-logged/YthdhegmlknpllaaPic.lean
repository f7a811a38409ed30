/-
  The walks of tetherkeep's pick (12), data (35), store (16).
-/
import Derived.Test.YthdhegmlknpllaaAt
namespace Go.Proofs.Ythdhegmlknpllaa
open Go.RowKit Go.Maps Go.MuLone

def pk (c n : Int) : Int := (if c < 0 then -(c + 1) else c) % n
theorem pk_lt (c n : Int) (h : 1 ≤ n) : 0 ≤ pk c n ∧ pk c n < n := ⟨Int.emod_nonneg _ (by omega), Int.emod_lt_of_pos _ (by omega)⟩

set_option maxHeartbeats 400000 in
theorem pick_any (c n : Int) (w : World) (hc : In64 c) (hn : 1 ≤ n) (hn2 : n ≤ 2000000000) :
    Calls Try.prog 15 #[.int .i64 c, .int .i64 n] w fun e w' => e = .returned (.int .i64 (pk c n)) ∧ w' = w := by
  obtain ⟨c1, c2⟩ := hc
  have hz : ¬ n = 0 := by omega
  by_cases h0 : c < 0
  · have hr := pk_lt c n hn
    have e : (-(c + 1)).tmod n = pk c n := by unfold pk; rw [if_pos h0, Int.tmod_eq_emod_of_nonneg (by omega)]
    rw [Int.neg_tmod] at e
    go_enter Try.func15, Try.ntmps15
    go_wp2
    go_ret
    refine ⟨ret_int ?_, rfl⟩
    go_num
  · have hr := pk_lt c n hn
    have e : c.tmod n = pk c n := by unfold pk; rw [if_neg h0, Int.tmod_eq_emod_of_nonneg (by omega)]
    rw [Int.tmod_eq_emod_of_nonneg (by omega)] at e
    go_enter Try.func15, Try.ntmps15
    go_wp2
    go_ret
    refine ⟨ret_int ?_, rfl⟩
    go_num

theorem byte_of {z : Int} (h : 0 ≤ z ∧ z < 256) : ∃ a : UInt8, z = (a.toNat : Int) := by
  refine ⟨UInt8.ofNat z.toNat, ?_⟩
  rw [UInt8.toNat_ofNat']
  omega

set_option maxRecDepth 100000 in
set_option maxHeartbeats 800000 in
theorem data_any (c : Int) (w : World) (hc : In64 c) :
    Calls Try.prog 45 #[.int .i64 c] w fun e w' => ∃ x : B4, e = .returned x.str ∧ Fr [] w w' := by
  have HP : Hid (∀ W, _) := fun W => pick_any c 26 W hc (by omega) (by omega)
  have hp := pk_lt c 26 (by omega)
  obtain ⟨p, hpp⟩ : ∃ p, pk c 26 = p := ⟨_, rfl⟩
  rw [hpp] at HP hp
  obtain ⟨a1, e1⟩ := byte_of (z := c % 256) (by omega)
  obtain ⟨a2, e2⟩ := byte_of (z := c / 256 % 256) (by omega)
  obtain ⟨a3, e3⟩ := byte_of (z := 97 + p) (by omega)
  have hcv : (convert 63 9 (.slice (some ⟨w.heap.size, 0, none⟩) 4 4)).run Try.prog (w.alloc (.cells #[.int .u8 (c % 256), .int .u8 (c / 256 % 256), .int .u8 (97 + p), .int .u8 120] 5)) = .ok (B4.str ⟨a1, a2, a3, 120⟩) (w.alloc (.cells #[.int .u8 (c % 256), .int .u8 (c / 256 % 256), .int .u8 (97 + p), .int .u8 120] 5)) := by
    rw [e1, e2, e3]
    exact str_conv (x := ⟨a1, a2, a3, 120⟩) (by simp [u8]) (by simp [u8]) (by simp [u8]) (by simp [u8])
  clear e1 e2 e3
  go_enter Try.func45, Try.ntmps45
  go_wp2_with (go_at_call 15; refine (HP.out _).mono ?_; rintro e w' ⟨rfl, hw'⟩; have hw' := hw'.symm; subst hw')
  go_ret
  exact ⟨⟨a1, a2, a3, 120⟩, rfl, (Fr.refl _ _).alloc _⟩

theorem Rep.base {B B' : Nat} {w : World} {b : Nat} {q : Int} {s : Sto} (h : Rep B w b q s) (hB : B' ≤ B) : Rep B' w b q s := by
  have mono : ∀ {e : TypeId} {size : Nat} {v : Value} {n : Nat} {xs : List Value}, w.ownsRow B e size v n xs → w.ownsRow B' e size v n xs := by
    intro e size v n xs h
    refine ⟨h.1, ?_⟩
    rcases h.2 with h0 | ⟨g, cap, cur, h1, h2, r⟩
    · exact .inl h0
    · exact .inr ⟨g, cap, cur, h1, Nat.le_trans hB h2, r⟩
  exact ⟨h.blk, h.vol, mono h.ss, h.th, mono h.ms, mono h.lg, Nat.le_trans hB h.hb, Nat.le_trans hB h.hvb, Nat.le_trans hB h.hmb⟩

def idOf (id : Int) : Int := 1 + pk id 999
def nOf (blocks : Int) : Nat := (1 + pk blocks 16).toNat
theorem idOf_ok (id : Int) : 1 ≤ idOf id ∧ idOf id ≤ 999 := by have := pk_lt id 999 (by omega); unfold idOf; omega
theorem nOf_ok (b : Int) : 1 ≤ nOf b ∧ nOf b ≤ 16 := by have := pk_lt b 16 (by omega); unfold nOf; omega

/-- What New leaves. -/
def Sto.made (id : Int) (n vb mb : Nat) (lv : Value) : Sto := (Sto.fresh id n vb mb).noted 78 (ntext id n) lv
theorem made_log (id : Int) (n vb mb : Nat) (lv : Value) : (Sto.made id n vb mb lv).log.length = 7 := rfl

/-- What the example's store is. -/
def Ex (s : Sto) : Prop := s.id = 7 ∧ s.taken = 0 ∧ s.ss = [] ∧ s.ms = [] ∧ s.came = 0 ∧ s.vol.length = 2 ∧ s.cnt = 0 ∧ s.log.length = 14
theorem store_write (B b vb mb : Nat) (lv : Value) (w : World) (r : Rep B w b 0 (Sto.made 7 2 vb mb lv)) :
    Calls Try.prog 22 #[.pointer (some ⟨b, 0, none⟩), .int .i64 0, .string ⟨#[97, 97, 97, 97]⟩] w fun e w' => e = .returned (.int .i64 0) ∧ ∃ s, Ex s ∧ Rep B w' b 0 s ∧ Fr (foot b (Sto.made 7 2 vb mb lv)) w w' := by
  refine (write_ok B b (Sto.made 7 2 vb mb lv) 0 ⟨97, 97, 97, 97⟩ w r (by simp [Sto.made, Sto.fresh, Sto.noted]) (by rw [made_log]; omega)).mono ?_
  rintro e w' ⟨rfl, lv', r', f, _⟩
  exact ⟨rfl, _, ⟨rfl, rfl, rfl, rfl, rfl, rfl, rfl, rfl⟩, r', f⟩
theorem store_snap (B b : Nat) (s2 : Sto) (w : World) (r : Rep B w b 0 s2) (k2 : Ex s2) :
    Calls Try.prog 24 #[.pointer (some ⟨b, 0, none⟩), .int .i64 5] w fun e w' => e = .returned (.tuple #[.int .i64 7000001, .int .i64 0]) ∧ Fr (foot b s2) w w' := by
  have := snap_ok B b s2 5 w r (by omega) (by rw [k2.1]; omega) (by rw [k2.2.1]; omega) ⟨by rw [k2.2.2.1]; simp, by rw [k2.2.2.2.1]; simp⟩ (by rw [k2.2.2.1]; simp) (by rw [k2.2.2.2.1]; simp) (by rw [k2.2.2.2.2.1]; omega) (by rw [k2.2.2.2.2.2.1]; omega) (by rw [k2.2.2.2.2.2.1, k2.2.2.2.2.2.2.1]; unfold maxLen; omega) (by rw [k2.2.2.2.2.2.2.2]; omega)
  rw [show gu s2 (s2.taken + 1) = 7000001 by unfold gu; rw [k2.1, k2.2.1]; rfl] at this
  refine this.mono ?_
  rintro e w' ⟨rfl, sv, lv, _, f, _⟩
  exact ⟨rfl, f⟩

set_option maxRecDepth 100000 in
set_option maxHeartbeats 1600000 in
theorem store_any (id blocks : Int) (w : World) (hi : In64 id) (hb : In64 blocks) :
    Calls Try.prog 19 #[.int .i64 id, .int .i64 blocks] w fun e w' => ∃ b vb mb lv, e = .returned (.pointer (some ⟨b, 0, none⟩)) ∧ Rep w.heap.size w' b 0 (Sto.made (idOf id) (nOf blocks) vb mb lv) ∧ Fr [] w w' := by
  have HN := new_ok 7 2 w (by omega) (by omega)
  have HN' : Calls Try.prog 44 #[.int .i64 7, .int .i64 2] w _ := HN
  clear HN
  have HP1 : Hid (∀ W, Calls Try.prog 15 #[.int .i64 id, .int .i64 999] W fun e w' => e = .returned (.int .i64 (pk id 999)) ∧ w' = W) := fun W => pick_any id 999 W hi (by omega) (by omega)
  have HP2 : Hid (∀ W, Calls Try.prog 15 #[.int .i64 blocks, .int .i64 16] W fun e w' => e = .returned (.int .i64 (pk blocks 16)) ∧ w' = W) := fun W => pick_any blocks 16 W hb (by omega) (by omega)
  have HM : Hid (∀ W, Calls Try.prog 44 #[.int .i64 (1 + pk id 999), .int .i64 (1 + pk blocks 16)] W fun e w' => ∃ b vb mb lv, e = .returned (.tuple #[.pointer (some ⟨b, 0, none⟩), .int .i64 0]) ∧ Rep W.heap.size w' b 0 (Sto.made (idOf id) (nOf blocks) vb mb lv) ∧ Fr [] W w') := fun W => by
    have := new_ok (idOf id) (nOf blocks) W (idOf_ok id) (nOf_ok blocks)
    have e : ((nOf blocks : Nat) : Int) = 1 + pk blocks 16 := by have := pk_lt blocks 16 (by omega); unfold nOf; omega
    rw [e] at this
    exact this
  have p1 := pk_lt id 999 (by omega)
  have p2 := pk_lt blocks 16 (by omega)
  obtain ⟨x, hx⟩ : ∃ x, pk id 999 = x := ⟨_, rfl⟩
  obtain ⟨y, hy⟩ : ∃ y, pk blocks 16 = y := ⟨_, rfl⟩
  rw [hx] at HP1 HM p1
  rw [hy] at HP2 HM p2
  clear hx hy
  have q1 : IntKind.i64.wrap (1 + x) = 1 + x := wrap_fit ⟨by omega, by omega⟩
  have q2 : IntKind.i64.wrap (1 + y) = 1 + y := wrap_fit ⟨by omega, by omega⟩
  go_enter Try.func19, Try.ntmps19
  go_wp2_with (first
    | (go_at_call_of 44 (Value.int .i64 7); refine HN'.mono ?_; rintro e w1 ⟨b, vb, mb, lv, rfl, r1, f1⟩
       have HW := store_write w.heap.size b vb mb lv w1 r1
       have HF1 : Hid (Rep w.heap.size w1 b 0 (Sto.made 7 2 vb mb lv) ∧ Fr [] w w1) := ⟨r1, f1⟩
       clear r1 f1)
    | (go_at_call 22; refine HW.mono ?_; rintro e w2 ⟨rfl, s2, k2, r2, f2⟩
       have HS := store_snap w.heap.size b s2 w2 r2 k2
       have HF2 : Hid (Fr [] w w2) := HF1.out.2.trans f2 (fun k hk => Or.inr (HF1.out.1.lt k hk).1)
       have HR2 : Hid (Rep w.heap.size w2 b 0 s2) := r2
       clear r2 f2 k2 HW)
    | (go_at_call 24; refine HS.mono ?_; rintro e w3 ⟨rfl, f3⟩
       have HF3 : Hid (Fr [] w w3) := HF2.out.trans f3 (fun k hk => Or.inr (HR2.out.lt k hk).1)
       clear f3 HS)
    | (go_at_call_of 15 (Value.int .i64 id); refine (HP1.out _).mono ?_; rintro e w' ⟨rfl, hw'⟩; have hw' := hw'.symm; subst hw')
    | (go_at_call_of 15 (Value.int .i64 blocks); refine (HP2.out _).mono ?_; rintro e w' ⟨rfl, hw'⟩; have hw' := hw'.symm; subst hw')
    | (go_at_call 44; refine (HM.out _).mono ?_; rintro e w4 ⟨b4, vb4, mb4, lv4, rfl, r4, f4⟩
       have HF4 : Hid (Rep w.heap.size w4 b4 0 (Sto.made (idOf id) (nOf blocks) vb4 mb4 lv4) ∧ Fr [] w w4) := ⟨r4.base HF3.out.size, HF3.out.trans f4 (by simp)⟩
       clear r4 f4))
  go_ret
  exact ⟨b4, vb4, mb4, lv4, rfl, HF4.out.1, HF4.out.2⟩
end Go.Proofs.Ythdhegmlknpllaa
