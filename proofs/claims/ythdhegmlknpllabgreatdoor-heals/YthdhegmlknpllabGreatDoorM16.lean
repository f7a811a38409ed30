import Derived.Test.YthdhegmlknpllabGreatDoorM15
import Derived.Laws.ResultCell
/-
  The walks of tetherkeep's pick (12), data (35), store (16).
-/
namespace Go.Proofs.YthdhegmlknpllabGreatDoor
open Go.RowKit Go.Maps Go.MuLone

def pk (c n : Int) : Int := (if c < 0 then -(c + 1) else c) % n
theorem pk_lt (c n : Int) (h : 1 ≤ n) : 0 ≤ pk c n ∧ pk c n < n := ⟨Int.emod_nonneg _ (by omega), Int.emod_lt_of_pos _ (by omega)⟩

set_option maxHeartbeats 400000 in
theorem pick_any (c n : Int) (w : World) (hc : In64 c) (hn : 1 ≤ n) (hn2 : n ≤ 2000000000) :
    Calls Tryz.prog 16 #[.int .i64 c, .int .i64 n] w fun e w' => e = .returned (.int .i64 (pk c n)) ∧ w' = w := by
  obtain ⟨c1, c2⟩ := hc
  have hz : ¬ n = 0 := by omega
  by_cases h0 : c < 0
  · have hr := pk_lt c n hn
    have e : (-(c + 1)).tmod n = pk c n := by unfold pk; rw [if_pos h0, Int.tmod_eq_emod_of_nonneg (by omega)]
    rw [Int.neg_tmod] at e
    go_enter Tryz.func16, Tryz.ntmps16
    go_wp2
    go_ret
    refine ⟨ret_int ?_, rfl⟩
    go_num
  · have hr := pk_lt c n hn
    have e : c.tmod n = pk c n := by unfold pk; rw [if_neg h0, Int.tmod_eq_emod_of_nonneg (by omega)]
    rw [Int.tmod_eq_emod_of_nonneg (by omega)] at e
    go_enter Tryz.func16, Tryz.ntmps16
    go_wp2
    go_ret
    refine ⟨ret_int ?_, rfl⟩
    go_num

theorem byte_of {z : Int} (h : 0 ≤ z ∧ z < 256) : ∃ a : UInt8, z = (a.toNat : Int) := by
  refine ⟨UInt8.ofNat z.toNat, ?_⟩
  rw [UInt8.toNat_ofNat']
  omega

set_option maxRecDepth 100000 in
set_option maxHeartbeats 800000 in
theorem data_any (c : Int) (w : World) (hc : In64 c) :
    Calls Tryz.prog 17 #[.int .i64 c] w fun e w' => ∃ x : B4, e = .returned x.str ∧ Fr [] w w' := by
  have HP : Hid (∀ W, _) := fun W => pick_any c 26 W hc (by omega) (by omega)
  have hp := pk_lt c 26 (by omega)
  obtain ⟨p, hpp⟩ : ∃ p, pk c 26 = p := ⟨_, rfl⟩
  rw [hpp] at HP hp
  obtain ⟨a1, e1⟩ := byte_of (z := c % 256) (by omega)
  obtain ⟨a2, e2⟩ := byte_of (z := c / 256 % 256) (by omega)
  obtain ⟨a3, e3⟩ := byte_of (z := 97 + p) (by omega)
  have hcv : (convert 50 9 (.slice (some ⟨w.heap.size, 0, none⟩) 4 4)).run Tryz.prog (w.alloc (.cells #[.int .u8 (c % 256), .int .u8 (c / 256 % 256), .int .u8 (97 + p), .int .u8 120] 5)) = .ok (B4.str ⟨a1, a2, a3, 120⟩) (w.alloc (.cells #[.int .u8 (c % 256), .int .u8 (c / 256 % 256), .int .u8 (97 + p), .int .u8 120] 5)) := by
    rw [e1, e2, e3]
    exact str_conv (x := ⟨a1, a2, a3, 120⟩) (by simp [u8]) (by simp [u8]) (by simp [u8]) (by simp [u8])
  clear e1 e2 e3
  go_enter Tryz.func17, Tryz.ntmps17
  go_wp2_with (go_at_call 16; refine (HP.out _).mono ?_; rintro e w' ⟨rfl, hw'⟩; have hw' := hw'.symm; subst hw')
  go_ret
  exact ⟨⟨a1, a2, a3, 120⟩, rfl, (Fr.refl _ _).alloc _⟩

theorem Rep.base {B B' : Nat} {w : World} {b : Nat} {q : Int} {s : Sto} (h : Rep B w b q s) (hB : B' ≤ B) : Rep B' w b q s := by
  have mono : ∀ {e : TypeId} {size : Nat} {v : Value} {n : Nat} {xs : List Value}, w.ownsRow B e size v n xs → w.ownsRow B' e size v n xs := by
    intro e size v n xs h
    refine ⟨h.1, ?_⟩
    rcases h.2 with h0 | ⟨g, cap, cur, h1, h2, r⟩
    · exact .inl h0
    · exact .inr ⟨g, cap, cur, h1, Nat.le_trans hB h2, r⟩
  exact ⟨h.blk, h.vol, mono h.ss, h.th, mono h.ms, mono h.lg, Nat.le_trans hB h.hb, Nat.le_trans hB h.hvb, Nat.le_trans hB h.hmb⟩

def idOf (id : Int) : Int := 1 + pk id 999
def nOf (blocks : Int) : Nat := (1 + pk blocks 16).toNat
theorem idOf_ok (id : Int) : 1 ≤ idOf id ∧ idOf id ≤ 999 := by have := pk_lt id 999 (by omega); unfold idOf; omega
theorem nOf_ok (b : Int) : 1 ≤ nOf b ∧ nOf b ≤ 16 := by have := pk_lt b 16 (by omega); unfold nOf; omega

/-- What New leaves. -/
def Sto.made (id : Int) (n vb mb : Nat) (lv : Value) : Sto := (Sto.fresh id n vb mb).noted 78 (ntext id n) lv
theorem made_log (id : Int) (n vb mb : Nat) (lv : Value) : (Sto.made id n vb mb lv).log.length = 7 := rfl

/-- What the example's store is. -/
def Ex (s : Sto) : Prop := s.id = 7 ∧ s.taken = 0 ∧ s.ss = [] ∧ s.ms = [] ∧ s.came = 0 ∧ s.vol.length = 2 ∧ s.cnt = 0 ∧ s.log.length = 14
theorem store_write (B b vb mb : Nat) (lv : Value) (w : World) (r : Rep B w b 0 (Sto.made 7 2 vb mb lv)) :
    Calls Tryz.prog 15 #[.pointer (some ⟨b, 0, none⟩), .int .i64 0, .string ⟨#[97, 97, 97, 97]⟩] w fun e w' => e = .returned (.int .i64 0) ∧ ∃ s, Ex s ∧ Rep B w' b 0 s ∧ Fr (foot b (Sto.made 7 2 vb mb lv)) w w' := by
  refine (write_ok B b (Sto.made 7 2 vb mb lv) 0 ⟨97, 97, 97, 97⟩ w r (by simp [Sto.made, Sto.fresh, Sto.noted]) (by rw [made_log]; omega)).mono ?_
  rintro e w' ⟨rfl, lv', r', f, _⟩
  exact ⟨rfl, _, ⟨rfl, rfl, rfl, rfl, rfl, rfl, rfl, rfl⟩, r', f⟩
theorem store_snap (B b : Nat) (s2 : Sto) (w : World) (r : Rep B w b 0 s2) (k2 : Ex s2) :
    Calls Tryz.prog 41 #[.pointer (some ⟨b, 0, none⟩), .int .i64 5] w fun e w' => e = .returned (.tuple #[.int .i64 7000001, .int .i64 0]) ∧ Fr (foot b s2) w w' := by
  have := snap_ok B b s2 5 w r (by omega) (by rw [k2.1]; omega) (by rw [k2.2.1]; omega) ⟨by rw [k2.2.2.1]; simp, by rw [k2.2.2.2.1]; simp⟩ (by rw [k2.2.2.1]; simp) (by rw [k2.2.2.2.1]; simp) (by rw [k2.2.2.2.2.1]; omega) (by rw [k2.2.2.2.2.2.1]; omega) (by rw [k2.2.2.2.2.2.1, k2.2.2.2.2.2.2.1]; unfold maxLen; omega) (by rw [k2.2.2.2.2.2.2.2]; omega)
  rw [show gu s2 (s2.taken + 1) = 7000001 by unfold gu; rw [k2.1, k2.2.1]; rfl] at this
  refine this.mono ?_
  rintro e w' ⟨rfl, sv, lv, _, f, _⟩
  exact ⟨rfl, f⟩

end Go.Proofs.YthdhegmlknpllabGreatDoor

/-
  The walks of tetherkeep's volume (36), is (18).
-/
namespace Go.Proofs.YthdhegmlknpllabGreatDoor
open Go.RowKit Go.Maps Go.MuLone

theorem info9 : (Tryz.prog.info? 9).map (fun i => (i.zero, i.size, i.bytes)) = some (some (.string ⟨#[]⟩), 1, 16) := by kernel_rfl

def strs (l : List Ct) : List Value := l.map fun c => c.x.str
theorem strs_take (l : List Ct) (k : Nat) (h : k < l.length) : strs (l.take (k + 1)) = strs (l.take k) ++ [l[k].x.str] := by
  unfold strs
  rw [List.take_succ_eq_append_getElem h, List.map_append]
  rfl

/-- A row that lies behind the store is kept while the store is asked. -/
theorem own_fr {w w' : World} {base : Nat} {e : TypeId} {size : Nat} {v : Value} {n : Nat} {xs : List Value} {F : List Nat} (h : w.ownsRow base e size v n xs) (hf : Fr F w w') (hn : ∀ k, v.ownBlock = some k → k ∉ F) : w'.ownsRow base e size v n xs :=
  own_of_block h (fun k hk => hf.block k (h.lt k hk).2 (hn k hk))

set_option maxRecDepth 100000 in
set_option maxHeartbeats 1600000 in
theorem volume_any (B b : Nat) (s : Sto) (w : World) (h : Rep B w b 0 s) (hv : s.vol.length ≤ 16) :
    Calls Tryz.prog 24 #[.pointer (some ⟨b, 0, none⟩), .int .i64 s.vol.length] w fun e w' => ∃ v, e = .returned (.tuple #[v, .bool true]) ∧ w'.ownsRow w.heap.size 9 1 v s.vol.length (strs s.vol) ∧ Rep B w' b 0 s ∧ Fr (foot b s) w w' := by
  obtain ⟨i0, hi, hz0, hz1, hz2⟩ := info_parts info9
  obtain ⟨n, hn⟩ : ∃ n, s.vol.length = n := ⟨_, rfl⟩
  have HN : Hid (s.vol.length = n) := hn
  have HR0 : Hid (Rep B w b 0 s) := h
  rw [hn] at hv ⊢
  clear h hn
  go_enter Tryz.func24, Tryz.ntmps24
  go_wp2
  go_loopw [6, 7] (fun vg i wr => ∃ k : Nat, k ≤ n ∧ i = .int .i64 k ∧ Hid (Rep B wr b 0 s ∧ Fr (foot b s) w wr ∧ wr.ownsRow w.heap.size 9 1 vg k (strs (s.vol.take k)))) (fun _ i _ => n - (intOf i).toNat)
  case atStart => exact ⟨0, Nat.zero_le _, rfl, HR0.out, Fr.refl _ _, World.ownsRow_nil _ _ _ _⟩
  case round =>
    obtain ⟨k, hk, rfl, HK⟩ := hrel
    obtain ⟨W3, hW3⟩ : ∃ W3, W3 = wr := ⟨_, rfl⟩
    subst hW3
    obtain ⟨ao, cap, hsh⟩ := own_shape HK.out.2.2
    subst hsh
    by_cases hlt : k < n
    · have hlt' : k < s.vol.length := by rw [HN.out]; exact hlt
      have HRd := read_ok B b s k W3 HK.out.1 hlt'
      obtain ⟨x, hx⟩ : ∃ x, s.vol[k].x = x := ⟨_, rfl⟩
      have HX : Hid (s.vol[k].x = x) := hx
      rw [hx] at HRd
      have hxs : x.str = .string ⟨#[x.a, x.b, x.c, x.d]⟩ := rfl
      rw [hxs] at HRd
      clear hx hxs
      have hltz : (k : Int) < (n : Int) := by omega
      go_wp2_with (first
        | (go_at_call 44; refine HRd.mono ?_; rintro e w4 ⟨rfl, r4, f4⟩
           have HK4 : Hid (Rep B w4 b 0 s ∧ Fr (foot b s) w w4 ∧ w4.ownsRow w.heap.size 9 1 (.slice ao k cap) k (strs (s.vol.take k))) := ⟨r4, HK.out.2.1.trans f4 (fun j hj => Or.inl hj), own_fr HK.out.2.2 f4 (fun j hj hm => by
             have h1 := (HK.out.2.2.lt j hj).1
             have h2 := (HR0.out.lt j hm).2
             omega)⟩
           clear r4 f4 HK)
        | (at_builtin; refine wpList_append_own _ rfl _ _ 56 rfl w.heap.size 9 i0 _ 1 16 Tryz.underlying56 hi hz0 hz1 hz2 rfl (by omega) (.slice ao k cap) k (strs (s.vol.take k)) rfl (HK4.out.2.2.alloc _) ⟨w4.heap.size, 0, none⟩ 1 1 [.string ⟨#[x.a, x.b, x.c, x.d]⟩] rfl (by simp) (World.news_of_block (cs := #[.string ⟨#[x.a, x.b, x.c, x.d]⟩]) (t := 9) (fr := (0, 0)) (heap_alloc_new w4 _)) (by simp [Value.oneCell']) (by unfold maxLen; omega) (by omega) (by have := HK4.out.2.1.size; simp; omega) ?_; intro v5 w5 hown5 hgrow5 hne5; clear hne5))
      have HK5 : Hid (Rep B w5 b 0 s ∧ Fr (foot b s) w w5 ∧ w5.ownsRow w.heap.size 9 1 v5 (k + 1) (strs (s.vol.take (k + 1)))) := by
        have hge : ∀ j, (Value.slice ao k cap).ownBlock = some j → w.heap.size ≤ j := fun j hj => (HK4.out.2.2.lt j hj).1
        have f5 : Fr (Value.slice ao k cap).ownBlock.toList w4 w5 := ((Fr.refl _ _).alloc _).grown hgrow5 (fun j hj => Or.inl (by simp [hj]))
        refine ⟨HK4.out.1.kept f5 (fun j hj hm => ?_), HK4.out.2.1.trans f5 (fun j hj => Or.inr (hge j (by simpa using hj))), ?_⟩
        · have h1 := hge j (by simpa using hm)
          have h2 := (HR0.out.lt j hj).2
          omega
        · rw [strs_take s.vol k hlt', HX.out]
          exact hown5
      clear hown5 hgrow5 HK4
      go_wp2
      go_roundw
      case rel => exact ⟨k + 1, by omega, by go_num, HK5⟩
      case measure => simp [intOf]; omega
    · have hkk : k = n := by omega
      subst hkk
      go_wp2
      go_ret2
      refine ⟨_, rfl, ?_, HK.out.1, HK.out.2.1⟩
      have := HK.out.2.2
      rw [← HN.out, List.take_length] at this
      rw [HN.out] at this
      exact this

/-- An image: its snapshot's guid, its time, its blocks. -/
def imgv (g t : Int) (v : Value) : Value := .agg #[.int .i64 g, .int .i64 t, v]

set_option maxRecDepth 100000 in
set_option maxHeartbeats 1600000 in
theorem is_any (B b : Nat) (s : Sto) (g t : Int) (v : Value) (base : Nat) (w : World) (h : Rep B w b 0 s) (hl : s.ss.length ≤ 12) (hg : In64 g) (hx : ∃ x ∈ s.ss, (x.guid == g) = true) (hv : s.vol.length ≤ 16)
    (ho : w.ownsRow base 9 1 v s.vol.length (strs ((List.range s.vol.length).map fun j : Nat => s.th g (j : Int)))) (hn : ∀ k, v.ownBlock = some k → k ∉ foot b s) :
    Calls Tryz.prog 29 #[imgv g t v, .pointer (some ⟨b, 0, none⟩)] w fun e w' => e = .returned (.bool true) ∧ Rep B w' b 0 s ∧ Fr (foot b s) w w' := by
  obtain ⟨ao, cap, hsh⟩ := own_shape ho
  subst hsh
  obtain ⟨n, hn'⟩ : ∃ n, s.vol.length = n := ⟨_, rfl⟩
  have HN : Hid (s.vol.length = n) := hn'
  have HO : Hid (Rep B w b 0 s ∧ w.ownsRow base 9 1 (.slice ao n cap) n (strs ((List.range n).map fun j : Nat => s.th g (j : Int))) ∧ ∀ k, (Value.slice ao n cap).ownBlock = some k → k ∉ foot b s) := ⟨h, by rw [hn'] at ho; exact ho, by rw [hn'] at hn; exact hn⟩
  have HA : Hid (∀ (W : World) (k : Nat), Rep B W b 0 s → k < n → Calls Tryz.prog 46 #[.pointer (some ⟨b, 0, none⟩), .int .i64 g, .int .i64 k] W fun e w' => e = .returned (.tuple #[.string ⟨#[(s.th g k).x.a, (s.th g k).x.b, (s.th g k).x.c, (s.th g k).x.d]⟩, .int .i64 0]) ∧ Rep B w' b 0 s ∧ Fr (foot b s) W w') := fun W k hW hk => at_ok B b s g k W hW (by omega) hg hx (by omega) hv
  rw [hn'] at hv ⊢
  unfold imgv
  obtain ⟨bx, hbx⟩ : ∃ bx, w.heap.size = bx := ⟨_, rfl⟩
  obtain ⟨w0, hw0⟩ : ∃ w0, w.alloc (.cells #[.int .i64 g, .int .i64 t, .slice ao n cap] 60) = w0 := ⟨_, rfl⟩
  have b0 : w0.heap[bx]? = some (.cells #[.int .i64 g, .int .i64 t, .slice ao n cap] 60 (0, 0)) := by rw [← hw0, ← hbx]; exact heap_alloc_new w _
  have HB : Hid (w0.heap[bx]? = some (.cells #[.int .i64 g, .int .i64 t, .slice ao n cap] 60 (0, 0)) ∧ Rep B w0 b 0 s ∧ Fr (foot b s) w w0 ∧ w0.ownsRow base 9 1 (.slice ao n cap) n (strs ((List.range n).map fun j : Nat => s.th g (j : Int))) ∧ bx ∉ foot b s) := ⟨b0, by rw [← hw0]; exact h.kept0 ((Fr.refl _ _).alloc _), by rw [← hw0]; exact (Fr.refl _ _).alloc _, by rw [← hw0]; exact HO.out.2.1.alloc _, fun hm => by have := (h.lt bx hm).2; omega⟩
  have hw0' : w.alloc (.cells #[.int .i64 g, .int .i64 t, .slice ao n cap] 60) = w0 := hw0
  have e0 : w0.cell? ⟨bx, 0, none⟩ = some (.int .i64 g) := by rw [cell_of b0]; rfl
  have e2 : w0.cell? ⟨bx, 2, none⟩ = some (.slice ao n cap) := by rw [cell_of b0]; rfl
  clear h ho hn hn' hx b0 hw0 hl
  go_enter Tryz.func29, Tryz.ntmps29
  go_wp2
  go_loopw [5] (fun i wr => ∃ k : Nat, k ≤ n ∧ i = .int .i64 k ∧ Hid (wr.heap[bx]? = some (.cells #[.int .i64 g, .int .i64 t, .slice ao n cap] 60 (0, 0)) ∧ Rep B wr b 0 s ∧ Fr (foot b s) w wr ∧ wr.ownsRow base 9 1 (.slice ao n cap) n (strs ((List.range n).map fun j : Nat => s.th g (j : Int))))) (fun i _ => n - (intOf i).toNat)
  case atStart => exact ⟨0, Nat.zero_le _, rfl, HB.out.1, HB.out.2.1, HB.out.2.2.1, HB.out.2.2.2.1⟩
  case round =>
    obtain ⟨k, hk, rfl, HK⟩ := hrel
    obtain ⟨W3, hW3⟩ : ∃ W3, W3 = wr := ⟨_, rfl⟩
    subst hW3
    clear e0 e2 hw0'
    have e0 : W3.cell? ⟨bx, 0, none⟩ = some (.int .i64 g) := by rw [cell_of HK.out.1]; rfl
    have e2 : W3.cell? ⟨bx, 2, none⟩ = some (.slice ao n cap) := by rw [cell_of HK.out.1]; rfl
    by_cases hlt : k < n
    · have HC := HA.out W3 k HK.out.2.1 hlt
      obtain ⟨sg, hao, hcap, hc⟩ := own_addr HK.out.2.2.2 (by omega)
      have hd : W3.cell? ⟨sg, k, none⟩ = some (.string ⟨#[(s.th g k).x.a, (s.th g k).x.b, (s.th g k).x.c, (s.th g k).x.d]⟩) := by
        rw [hc k (by omega)]
        simp [strs, hlt, B4.str]
      obtain ⟨x, hx⟩ : ∃ x, (⟨#[(s.th g k).x.a, (s.th g k).x.b, (s.th g k).x.c, (s.th g k).x.d]⟩ : ByteArray) = x := ⟨_, rfl⟩
      rw [hx] at hd HC
      clear hx hc
      subst hao
      have hltz : (k : Int) < (n : Int) := by omega
      have lsg := World.block_lt_of_cell? _ _ hd
      go_wp2_with (first
        | (go_at_call 46; refine HC.mono ?_; rintro e w4 ⟨rfl, r4, f4⟩
           have HK4 : Hid (w4.heap[bx]? = some (.cells #[.int .i64 g, .int .i64 t, .slice (some ⟨sg, 0, none⟩) n cap] 60 (0, 0)) ∧ Rep B w4 b 0 s ∧ Fr (foot b s) w w4 ∧ w4.ownsRow base 9 1 (.slice (some ⟨sg, 0, none⟩) n cap) n (strs ((List.range n).map fun j : Nat => s.th g (j : Int)))) := ⟨by rw [f4.block bx (Array.getElem?_eq_some_iff.1 HK.out.1).1 HB.out.2.2.2.2]; exact HK.out.1, r4, HK.out.2.2.1.trans f4 (fun j hj => Or.inl hj), own_fr HK.out.2.2.2 f4 HO.out.2.2⟩
           have e2' : w4.cell? ⟨bx, 2, none⟩ = some (.slice (some ⟨sg, 0, none⟩) n cap) := by rw [cell_of HK4.out.1]; rfl
           have hd' : w4.cell? ⟨sg, k, none⟩ = some (.string x) := (World.cell?_of_block (f4.block sg lsg (HO.out.2.2 sg rfl))).trans hd
           clear r4 f4))
      go_roundw
      case rel => exact ⟨k + 1, by omega, by go_num, HK4⟩
      case measure => simp [intOf]; omega
    · have hkk : k = n := by omega
      subst hkk
      go_wp2
      go_ret
      exact ⟨rfl, HK.out.2.1, HK.out.2.2.1⟩
end Go.Proofs.YthdhegmlknpllabGreatDoor

/-
  The walk of tetherkeep's takes (17).
-/
namespace Go.Proofs.YthdhegmlknpllabGreatDoor
open Go.RowKit Go.Maps Go.MuLone

def tm (zs : List Int) (i : Nat) : Int := zs[i]?.getD 0
def Bnd (zs : List Int) : Prop := ∀ i, i < zs.length → In64 (tm zs i)
/-- A slice of numbers that lies ahead of B: what its cells hold. -/
def RowB (B : Nat) (w : World) (ao : Option Addr) (zs : List Int) (cap : Nat) : Prop :=
  zs.length ≤ cap ∧ (0 < zs.length → ∃ b off, ao = some ⟨b, off, none⟩ ∧ b < B ∧ ∀ i, i < zs.length → w.cell? ⟨b, off + i, none⟩ = some (.int .i64 (tm zs i)))
theorem RowB.fr {B : Nat} {w w' : World} {ao : Option Addr} {zs : List Int} {cap : Nat} {F : List Nat} (h : RowB B w ao zs cap) (hf : Fr F w w') (hF : ∀ k ∈ F, B ≤ k) : RowB B w' ao zs cap := by
  refine ⟨h.1, fun h0 => ?_⟩
  obtain ⟨b, off, e, hb, hc⟩ := h.2 h0
  refine ⟨b, off, e, hb, fun i hi => ?_⟩
  have hlt := World.block_lt_of_cell? _ _ (hc i hi)
  exact (World.cell?_of_block (hf.block b hlt (fun hm => by have := hF b hm; omega))).trans (hc i hi)

structure Inv (s : Sto) (z : Int) (n i m : Nat) : Prop where
  id : s.id = z
  vol : s.vol.length = n
  ss : s.ss.length = i
  tk : s.taken = i
  cm : s.came = i
  ms : s.ms = []
  cnt : s.cnt ≤ i * 16
  gd : ∀ k (h : k < s.ss.length), s.ss[k].guid = z * 1000000 + ((k : Int) + 1)
  cd : ∀ k (h : k < s.ss.length), s.ss[k].came = (k : Int) + 1 ∧ s.ss[k].holds = 0 ∧ 0 ≤ s.ss[k].time ∧ s.ss[k].time ≤ 1073741824
  lg : s.log.length ≤ m
  mv : s.mv = .slice none 0 0
abbrev InvI (s : Sto) (z : Int) (n i : Nat) : Prop := Inv s z n i (7 + 200 * i)

theorem Inv.write {s : Sto} {id : Int} {n i m : Nat} (h : Inv s id n i m) (k : Nat) (x : B4) (lv : Value) : Inv ((s.write k x).noted 87 (wtext k x) lv) id n i (m + 7) :=
  ⟨h.id, by simp [Sto.write, Sto.noted, h.vol], h.ss, h.tk, h.cm, h.ms, h.cnt, h.gd, h.cd, by
    have := h.lg
    simp only [Sto.noted, Sto.write, List.length_append]
    have e : (entry 87 (wtext k x)).length = 7 := rfl
    omega, h.mv⟩

theorem Inv.snap {s : Sto} {id : Int} {n i m m' : Nat} (h : Inv s id n i m) (hn : n ≤ 16) (hm : m + 6 ≤ m') (t : Int) (ht : 0 ≤ t ∧ t ≤ 1073741824) (sv lv : Value) : Inv ((s.snap t sv).noted 83 (n4 t).ba lv) id n (i + 1) m' := by
  have hg : gu s (s.taken + 1) = id * 1000000 + ((i : Int) + 1) := by unfold gu; rw [h.id, h.tk]
  refine ⟨h.id, h.vol, ?_, ?_, ?_, h.ms, ?_, ?_, ?_, ?_, h.mv⟩
  · simp [Sto.noted, Sto.snap, Sto.add, h.ss]
  · simp [Sto.noted, Sto.snap, Sto.add, h.tk]
  · simp [Sto.noted, Sto.snap, Sto.add, h.cm]
  · have := h.cnt
    have := h.vol
    simp [Sto.noted, Sto.snap, Sto.add]
    omega
  · intro k hk
    simp only [Sto.noted, Sto.snap, Sto.add] at hk ⊢
    by_cases hlt : k < s.ss.length
    · rw [List.getElem_append_left hlt]
      exact h.gd k hlt
    · have hk' : k = i := by simp [h.ss] at hk hlt; omega
      rw [List.getElem_append_right (by omega)]
      simp only [h.ss, hk', Nat.sub_self, List.getElem_cons_zero]
      exact hg
  · intro k hk
    simp only [Sto.noted, Sto.snap, Sto.add] at hk ⊢
    by_cases hlt : k < s.ss.length
    · rw [List.getElem_append_left hlt]
      exact h.cd k hlt
    · have hk' : k = i := by simp [h.ss] at hk hlt; omega
      rw [List.getElem_append_right (by omega)]
      simp only [h.ss, hk', Nat.sub_self, List.getElem_cons_zero]
      exact ⟨by rw [h.cm], trivial, ht⟩
  · have := h.lg
    simp only [Sto.noted, Sto.snap, Sto.add, List.length_append]
    have e : (entry 83 (n4 t).ba).length = 6 := rfl
    omega

theorem Inv.free {s : Sto} {id : Int} {n i m : Nat} (h : Inv s id n i m) : Free s := by
  refine ⟨fun x hx => ?_, fun x hx => ?_⟩
  · obtain ⟨k, hk, rfl⟩ := List.getElem_of_mem hx
    have := h.gd k hk
    have h2 := h.ss
    simp only [beq_eq_false_iff_ne, ne_eq]
    unfold gu
    rw [this, h.id, h.tk]
    omega
  · rw [h.ms] at hx
    simp at hx

/-- A block of images is none of a store's. -/
theorem Rep.not46 {B : Nat} {w : World} {b : Nat} {q : Int} {s : Sto} (h : Rep B w b q s) {k : Nat} {cs : Array Value} {fr : Nat × Nat} (hk : w.heap[k]? = some (.cells cs 60 fr)) : k ∉ foot b s := by
  intro hm
  simp only [foot, List.mem_append, List.mem_cons, List.not_mem_nil, or_false, Option.mem_toList] at hm
  rcases hm with (((rfl | rfl | rfl) | h1) | h1) | h1
  · have := h.blk; rw [hk] at this; simp [Sto.blk] at this
  · have := h.vol; rw [hk] at this; simp at this
  · obtain ⟨es, c, h2⟩ := h.th.at
    rw [hk] at h2; simp at h2
  · obtain ⟨_, cur, h2⟩ := own_tag h.ss h1
    rw [hk] at h2; simp at h2
  · obtain ⟨_, cur, h2⟩ := own_tag h.ms h1
    rw [hk] at h2; simp at h2
  · obtain ⟨_, cur, h2⟩ := own_tag h.lg h1
    rw [hk] at h2; simp at h2

theorem write_foot {b k : Nat} {s : Sto} {x : B4} {lv : Value} {N : Nat} (h : ∀ j, lv.ownBlock = some j → s.lv.ownBlock = some j ∨ N ≤ j) : ∀ j ∈ foot b ((s.write k x).noted 87 (wtext k x) lv), j ∈ foot b s ∨ N ≤ j := by
  intro j hj
  simp only [foot, Sto.noted, Sto.write, List.mem_append, List.mem_cons, List.not_mem_nil, or_false, Option.mem_toList] at hj ⊢
  rcases hj with h1 | h1
  · exact Or.inl (Or.inl h1)
  · exact (h j h1).imp_left Or.inr
theorem snap_foot {b : Nat} {s : Sto} {t : Int} {sv lv : Value} {N : Nat} (h : ∀ j, sv.ownBlock = some j → s.sv.ownBlock = some j ∨ N ≤ j) (h' : ∀ j, lv.ownBlock = some j → s.lv.ownBlock = some j ∨ N ≤ j) : ∀ j ∈ foot b ((s.snap t sv).noted 83 (n4 t).ba lv), j ∈ foot b s ∨ N ≤ j := by
  intro j hj
  simp only [foot, Sto.noted, Sto.snap, Sto.add, List.mem_append, List.mem_cons, List.not_mem_nil, or_false, Option.mem_toList] at hj ⊢
  rcases hj with ((h1 | h1) | h1) | h1
  · exact Or.inl (Or.inl (Or.inl (Or.inl h1)))
  · exact (h j h1).imp_left (fun h2 => Or.inl (Or.inl (Or.inr h2)))
  · exact Or.inl (Or.inl (Or.inr h1))
  · exact (h' j h1).imp_left Or.inr

theorem tdiv_ok {x : Int} {n : Nat} (hx : In64 x) (hn : 1 ≤ n) : In64 (x.tdiv n) := by
  obtain ⟨h1, h2⟩ := hx
  rcases Int.le_total 0 x with h | h
  · have a := Int.tdiv_nonneg h (show (0 : Int) ≤ n by omega)
    have b : x.tdiv n ≤ x := by rw [Int.tdiv_eq_ediv_of_nonneg h]; exact Int.ediv_le_self _ h
    exact ⟨by omega, by omega⟩
  · have e : x.tdiv n = -((-x).tdiv n) := by rw [Int.neg_tdiv]; omega
    have a := Int.tdiv_nonneg (show 0 ≤ -x by omega) (show (0 : Int) ≤ n by omega)
    have b : (-x).tdiv n ≤ -x := by rw [Int.tdiv_eq_ediv_of_nonneg (by omega)]; exact Int.ediv_le_self _ (by omega)
    exact ⟨by omega, by omega⟩

/-- What takes leaves behind its last store. -/
def TakesPost (B b : Nat) (s : Sto) (id : Int) (n i : Nat) (w w' : World) (v : Value) : Prop :=
  ∃ s', Rep B w' b 0 s' ∧ InvI s' id n (i + 1) ∧ Fr (foot b s) w w' ∧ (∀ k ∈ foot b s', k ∈ foot b s ∨ w.heap.size ≤ k) ∧
      (∀ g j, g ≠ id * 1000000 + ((i : Int) + 1) → s'.th g j = s.th g j) ∧ w'.ownsRow w.heap.size 9 1 v n (strs ((List.range n).map fun j : Nat => s'.th (id * 1000000 + ((i : Int) + 1)) (j : Int)))

theorem snap_strs (s : Sto) (id : Int) (n i m : Nat) (I : Inv s id n i m) (t : Int) (sv : Value) : strs s.vol = strs ((List.range n).map fun j : Nat => (s.snap t sv).th (id * 1000000 + ((i : Int) + 1)) (j : Int)) := by
  congr 1
  have e : gu s (s.taken + 1) = id * 1000000 + ((i : Int) + 1) := by unfold gu; rw [I.id, I.tk]
  apply List.ext_getElem
  · simp [I.vol]
  · intro j h1 h2
    simp only [Sto.snap, Sto.add, List.getElem_map, List.getElem_range, e]
    rw [if_pos ⟨trivial, by omega, by omega⟩]
    simp [h1]

theorem takes_end {B b : Nat} {s s1 : Sto} {id : Int} {n i k bx : Nat} {w W3 w4 w5 : World} {sv lv v : Value} {t : Int} (ht : 0 ≤ t ∧ t ≤ 1073741824) (hb : w.heap.size = bx) (hk : k ≤ 20) (hn : n ≤ 16)
    (h1 : Rep B W3 b 0 s1) (I : Inv s1 id n i (7 + 200 * i + 7 * k)) (f3 : Fr (foot b s) w W3) (hx : W3.heap[bx]? = some (.cells #[.int .i64 0, .int .i64 0, .slice none 0 0] 60 (0, 0))) (hth : s1.th = s.th) (hft : ∀ k ∈ foot b s1, k ∈ foot b s ∨ w.heap.size ≤ k)
    (f4 : Fr (foot b s1) W3 w4) (a4 : ∀ k, sv.ownBlock = some k → s1.sv.ownBlock = some k ∨ W3.heap.size ≤ k) (l4 : ∀ k, lv.ownBlock = some k → s1.lv.ownBlock = some k ∨ W3.heap.size ≤ k)
    (o5 : w5.ownsRow w4.heap.size 9 1 v n (strs s1.vol)) (r4 : Rep B w4 b 0 ((s1.snap t sv).noted 83 (n4 t).ba lv)) (r5 : Rep B w5 b 0 ((s1.snap t sv).noted 83 (n4 t).ba lv)) (f5 : Fr (foot b ((s1.snap t sv).noted 83 (n4 t).ba lv)) w4 w5) :
    w5.heap[bx]? = some (.cells #[.int .i64 0, .int .i64 0, .slice none 0 0] 60 (0, 0)) ∧ ∀ x y z, TakesPost B b s id n i w (((w5.setCell ⟨bx, 0, none⟩ x).setCell ⟨bx, 1, none⟩ y).setCell ⟨bx, 2, none⟩ z) v := by
  have hbw : bx < W3.heap.size := (Array.getElem?_eq_some_iff.1 hx).1
  have hsub3 : ∀ k ∈ foot b ((s1.snap t sv).noted 83 (n4 t).ba lv), k ∈ foot b s1 ∨ W3.heap.size ≤ k := snap_foot a4 l4
  have hsub : ∀ k ∈ foot b ((s1.snap t sv).noted 83 (n4 t).ba lv), k ∈ foot b s ∨ w.heap.size ≤ k := fun k hk => by
    rcases hsub3 k hk with h | h
    · exact hft k h
    · exact Or.inr (Nat.le_trans f3.size h)
  have h4 : w4.heap[bx]? = some (.cells #[.int .i64 0, .int .i64 0, .slice none 0 0] 60 (0, 0)) := by rw [f4.block bx hbw (h1.not46 hx)]; exact hx
  have hbn : bx ∉ foot b ((s1.snap t sv).noted 83 (n4 t).ba lv) := r4.not46 h4
  have h5 : w5.heap[bx]? = some (.cells #[.int .i64 0, .int .i64 0, .slice none 0 0] 60 (0, 0)) := by rw [f5.block bx (Array.getElem?_eq_some_iff.1 h4).1 hbn]; exact h4
  refine ⟨h5, fun x y z => ⟨(s1.snap t sv).noted 83 (n4 t).ba lv, ?_, I.snap hn (by omega) t ht sv lv, ?_, hsub, ?_, ?_⟩⟩
  · refine r5.of_foot (fun k hk => ?_)
    have hne : k ≠ bx := fun e => hbn (e ▸ hk)
    rw [heap_setCell_other _ _ _ _ hne, heap_setCell_other _ _ _ _ hne, heap_setCell_other _ _ _ _ hne]
  · have f5' : Fr (foot b s) w w5 := (f3.trans f4 hft).trans f5 hsub
    exact ((f5'.setCell _ (Or.inr (by simp [hb]))).setCell _ (Or.inr (by simp [hb]))).setCell _ (Or.inr (by simp [hb]))
  · intro g j hg
    have e : gu s1 (s1.taken + 1) = id * 1000000 + ((i : Int) + 1) := by unfold gu; rw [I.id, I.tk]
    simp only [Sto.noted, Sto.snap, Sto.add, e]
    rw [if_neg (fun h => hg h.1), hth]
  · show World.ownsRow _ w.heap.size 9 1 v n (strs ((List.range n).map fun j : Nat => (s1.snap t sv).th (id * 1000000 + ((i : Int) + 1)) (j : Int)))
    rw [← snap_strs s1 id n i _ I t sv]
    have hle : w.heap.size ≤ w4.heap.size := Nat.le_trans f3.size f4.size
    have o6 : w5.ownsRow w.heap.size 9 1 v n (strs s1.vol) := by
      refine ⟨o5.1, ?_⟩
      rcases o5.2 with h0 | ⟨g, cap, cur, h1, h2, r⟩
      · exact .inl h0
      · exact .inr ⟨g, cap, cur, h1, Nat.le_trans hle h2, r⟩
    refine own_of_block o6 (fun k hk => ?_)
    have hne : k ≠ bx := fun e => by
      have := (o5.lt k hk).1
      have := Nat.lt_of_lt_of_le hbw f4.size
      omega
    rw [heap_setCell_other _ _ _ _ hne, heap_setCell_other _ _ _ _ hne, heap_setCell_other _ _ _ _ hne]

end Go.Proofs.YthdhegmlknpllabGreatDoor
