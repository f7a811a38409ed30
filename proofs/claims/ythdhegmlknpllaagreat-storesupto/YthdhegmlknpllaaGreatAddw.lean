/-
  The walk of add (NOTYPE43).
-/
import Derived.Test.YthdhegmlknpllaaGreatAdd
import Derived.Deep.RegionLaw
import Derived.BigRegion
namespace Go.Proofs.YthdhegmlknpllaaGreat
open Go.RowKit Go.Maps Go.MuLone

def thK (s : Sto) (g : Int) (k : Nat) : Int → Int → Ct := fun g' i => if g' = g ∧ 0 ≤ i ∧ i < k then s.vol.getD i.toNat Ct.zero else s.th g' i
theorem thK_zero (s : Sto) (g : Int) : thK s g 0 = s.th := by
  funext g' i
  unfold thK
  rw [if_neg (by omega)]
theorem thK_succ (s : Sto) (g : Int) (k : Nat) (hk : k < s.vol.length) : (fun g' i' => if g' = g ∧ i' = (k : Int) then s.vol[k] else thK s g k g' i') = thK s g (k + 1) := by
  funext g' i
  unfold thK
  by_cases h1 : g' = g ∧ i = (k : Int)
  · rw [if_pos h1, if_pos (by omega)]
    obtain ⟨_, rfl⟩ := h1
    simp [hk]
  · rw [if_neg h1]
    by_cases h2 : g' = g ∧ 0 ≤ i ∧ i < (k : Int)
    · rw [if_pos h2, if_pos (by omega)]
    · rw [if_neg h2, if_neg (by omega)]

def Sto.mid (s : Sto) (g t : Int) (sv : Value) (k : Nat) : Sto :=
  { s with
    came := s.came + 1
    ss := s.ss ++ [⟨g, t, 0, s.came + 1⟩]
    th := thK s g k
    cnt := s.cnt + k
    sv := sv }
theorem mid_end (s : Sto) (g t : Int) (sv : Value) : s.mid g t sv s.vol.length = s.add g t sv := rfl

theorem froz_alloc {w : World} {o : Obj} {b j : Nat} (hb : b < w.heap.size) (h : w.frozen? ⟨b, j, none⟩ = false) : (w.alloc o).drew.frozen? ⟨b, j, none⟩ = false := by
  rw [show (w.alloc o).drew.frozen? ⟨b, j, none⟩ = (w.alloc o).frozen? ⟨b, j, none⟩ from rfl, World.frozen?_of_block (Below.heap_alloc w o b hb)]
  exact h

set_option maxRecDepth 100000 in
set_option maxHeartbeats 1600000 in
theorem add_any (B b : Nat) (q : Int) (s : Sto) (g t : Int) (w : World) (h : Rep B w b q s) (hs : s.ss.length < 12) (hc : 0 ≤ s.came ∧ s.came ≤ 1000000000000) (hv : s.vol.length ≤ 16) (hcnt : s.cnt + s.vol.length < maxLen) (hg : In64 g) :
    Calls Tryz.prog 63 #[.pointer (some ⟨b, 0, none⟩), .int .i64 g, .int .i64 t] w fun e w' => e = .returned (.tuple #[]) ∧ ∃ sv, Rep B w' b q (s.add g t sv) ∧ Fr (foot b s) w w' ∧ (∀ k, sv.ownBlock = some k → s.sv.ownBlock = some k ∨ w.heap.size ≤ k) := by
  obtain ⟨i0, hi, hz0, hz1, hz2⟩ := info_parts info102
  obtain ⟨c0, c2, c3, c4, c5, c6, c7, c8, c9⟩ := h.cells
  have R1 := h.setCame (s.came + 1)
  obtain ⟨w1, hw1⟩ : ∃ w1, w.setCell ⟨b, 7, none⟩ (.int .i64 (s.came + 1)) = w1 := ⟨_, rfl⟩
  rw [hw1] at R1
  have F1 : Fr (foot b s) w w1 := by rw [← hw1]; exact (Fr.refl _ _).setCell _ (Or.inl (by simp [foot]))
  obtain ⟨d0, d2, d3, d4, d5, d6, d7, d8, d9⟩ := R1.cells
  have f4 := R1.frozen 4
  have f7 := h.frozen 7
  have e1 : IntKind.i64.wrap (s.came + 1) = s.came + 1 := wrap_fit ⟨by omega, by omega⟩
  have lb := World.block_lt_of_cell? _ _ d4
  have lb' : b < w1.heap.size := lb
  have hBw : B ≤ w1.heap.size := by have := h.hb; omega
  have HO : Hid (w1.ownsRow B 119 4 s.sv s.ss.length (snC s.ss)) := R1.ss
  have hne : s.sv.ownBlock ≠ some b := fun e => (h.apart.2.2.2.1 b e).1 rfl
  obtain ⟨ao, cap, hsv⟩ := own_shape h.ss
  have HR : Hid (Rep B w1 b q { s with came := s.came + 1 } ∧ Fr (foot b s) w w1 ∧ w.setCell ⟨b, 7, none⟩ (.int .i64 (s.came + 1)) = w1) := ⟨R1, F1, hw1⟩
  have hw1' : w.setCell ⟨b, 7, none⟩ (.int .i64 (s.came + 1)) = w1 := hw1
  rw [hsv] at HO hne
  simp only [hsv] at c4 d4
  clear R1 F1 hw1 c6 d6 c9 d9 h
  go_enter Tryz.func63, Tryz.ntmps63
  go_wp2
  go_region_law
    ((refine step_append_lies _ (by rfl) _ _ _ (by rfl) B 119 i0 _ 4 32 Tryz.underlying72 hi hz0 hz1 hz2 rfl (by omega) (.slice ao s.ss.length cap) s.ss.length (snC s.ss) (by rfl) ((HO.out.alloc _).drew) ⟨w1.heap.size, 0, none⟩ 1 1 [.int .i64 g, .int .i64 t, .int .i64 0, .int .i64 (s.came + 1)] (by rfl) (by rfl) (World.news_of_block (cs := #[.int .i64 g, .int .i64 t, .int .i64 0, .int .i64 (s.came + 1)]) (t := 119) (fr := (0, 0)) (heap_alloc_new w1 _)) (by simp [Value.oneCell']) (by omega) (by unfold maxLen; omega) (by omega) (by simp; omega) (w1.heap.size + 1) (by simp) ?_; intro gg cap1 w9 hown9 hgrow hat hlt9; have f9 : w9.frozen? ⟨b, 4, none⟩ = false := (hgrow.frozen_far ⟨b, 4, none⟩ (by simp; omega) (Ne.symm hne)).trans (froz_alloc lb' f4); have c9 : w9.cell? ⟨b, 4, none⟩ = some (.slice ao s.ss.length cap) := (hgrow.cell_far ⟨b, 4, none⟩ (by simp; omega) (Ne.symm hne)).trans ((World.cell?_of_block (Below.heap_alloc w1 _ b lb')).trans d4)))
  all_goals
    have HR9 : Hid (Rep B (w9.setCell ⟨b, 4, none⟩ (.slice (some ⟨gg, 0, none⟩) (s.ss.length + 1) cap1)) b q (s.mid g t (.slice (some ⟨gg, 0, none⟩) (s.ss.length + 1) cap1) 0) ∧ Fr (foot b s) w (w9.setCell ⟨b, 4, none⟩ (.slice (some ⟨gg, 0, none⟩) (s.ss.length + 1) cap1))) := by
      have R2 := HR.out.1.kept0 ((Fr.refl _ _).alloc (.cells #[.int .i64 g, .int .i64 t, .int .i64 0, .int .i64 (s.came + 1)] 119)).drew
      have R3 := R2.appended (x := ⟨g, t, 0, s.came + 1⟩) hown9 (by rw [show ({ s with came := s.came + 1 } : Sto).sv = s.sv from rfl, hsv]; exact hgrow)
      refine ⟨?_, ?_⟩
      · have e : s.mid g t (.slice (some ⟨gg, 0, none⟩) (s.ss.length + 1) cap1) 0 = { s with came := s.came + 1, ss := s.ss ++ [⟨g, t, 0, s.came + 1⟩], sv := .slice (some ⟨gg, 0, none⟩) (s.ss.length + 1) cap1 } := by
          unfold Sto.mid
          rw [thK_zero]
          rfl
        rw [e]
        exact R3
      · refine Fr.setCell ?_ _ (Or.inl (by simp [foot]))
        refine (HR.out.2.1.alloc _).drew.grown hgrow (fun k hk => Or.inl ?_)
        simp [foot, hsv, hk]
    have HAT : Hid (∀ k, (Value.slice (some ⟨gg, 0, none⟩) (s.ss.length + 1) cap1).ownBlock = some k → s.sv.ownBlock = some k ∨ w.heap.size ≤ k) := by
      intro k hk
      have hk' : gg = k := by simpa [Value.ownBlock] using hk
      subst hk'
      rcases hat with h | h
      · left; rw [hsv]; exact h
      · right
        have := HR.out.2.1.size
        omega
    obtain ⟨sv, hsv9⟩ : ∃ sv, Value.slice (some ⟨gg, 0, none⟩) (s.ss.length + 1) cap1 = sv := ⟨_, rfl⟩
    obtain ⟨W9, hW9⟩ : ∃ W9, w9.setCell ⟨b, 4, none⟩ (.slice (some ⟨gg, 0, none⟩) (s.ss.length + 1) cap1) = W9 := ⟨_, rfl⟩
    rw [hW9, hsv9] at HR9
    rw [hsv9] at HAT
    rw [hW9]
    clear hsv9 hown9 hgrow hat hlt9 f9 c9 hW9 HO HR d0 d2 d3 d4 d5 d7 d8 c0 c2 c3 c4 c5 c7 c8 f4 f7 hw1' e1
    have k3 : W9.cell? ⟨b, 3, none⟩ = some (.slice (some ⟨s.vb, 0, none⟩) s.vol.length s.vol.length) := HR9.out.1.cells.2.2.1
    obtain ⟨n, hn⟩ : ∃ n, s.vol.length = n := ⟨_, rfl⟩
    rw [hn] at k3 hv
    have HN : Hid (s.vol.length = n) := hn
    clear hn
    go_wp2
    go_loopw [37] (fun i wr => ∃ k : Nat, k ≤ n ∧ i = .int .i64 k ∧ Hid (Rep B wr b q (s.mid g t sv k) ∧ Fr (foot b s) w wr)) (fun i _ => n - (intOf i).toNat)
    case atStart => exact ⟨0, Nat.zero_le _, rfl, HR9⟩
    case round =>
      obtain ⟨k, hk, rfl, HK⟩ := hrel
      obtain ⟨W3, hW3⟩ : ∃ W3, W3 = wr := ⟨_, rfl⟩
      subst hW3
      clear HR9 k3
      by_cases hlt : k < n
      · have hlt' : k < s.vol.length := by rw [HN.out]; exact hlt
        have hv4 := vol_at HK.out.1 k hlt'
        obtain ⟨x, hx⟩ : ∃ x, s.vol[k] = x := ⟨_, rfl⟩
        have v0 : W3.cell? ⟨s.vb, k * 5, none⟩ = some (.int .u8 (x.x.a.toNat : Int)) := by rw [← hx]; exact hv4.1
        have v1 : W3.cell? ⟨s.vb, k * 5 + 1, none⟩ = some (.int .u8 (x.x.b.toNat : Int)) := by rw [← hx]; exact hv4.2.1
        have v2 : W3.cell? ⟨s.vb, k * 5 + 2, none⟩ = some (.int .u8 (x.x.c.toNat : Int)) := by rw [← hx]; exact hv4.2.2.1
        have v3 : W3.cell? ⟨s.vb, k * 5 + 3, none⟩ = some (.int .u8 (x.x.d.toNat : Int)) := by rw [← hx]; exact hv4.2.2.2.1
        have v4 : W3.cell? ⟨s.vb, k * 5 + 4, none⟩ = some (.int .i64 x.n) := by rw [← hx]; exact hv4.2.2.2.2
        have j5 : W3.cell? ⟨b, 5, none⟩ = some (.map (some s.mb)) := HK.out.1.cells.2.2.2.2.1
        have lb3 := World.block_lt_of_cell? _ _ j5
        have hltz : (k : Int) < (n : Int) := by omega
        have R4 := (HK.out.1.kept0 ((Fr.refl [] W3).alloc (.cells #[.int .u8 (x.x.a.toNat : Int), .int .u8 (x.x.b.toNat : Int), .int .u8 (x.x.c.toNat : Int), .int .u8 (x.x.d.toNat : Int), .int .i64 x.n] 112)).drew)
        obtain ⟨w8, hp8, hr8, hg8, _⟩ := R4.put (g := g) (i := (k : Int)) (by show s.cnt + k < maxLen; have := HN.out; omega) hg ⟨by omega, by omega⟩ x
        have hp : (Instr.mapUpdate 64 (.map (some s.mb)) (.agg #[.int .i64 g, .int .i64 k]) (.agg #[.int .u8 (x.x.a.toNat : Int), .int .u8 (x.x.b.toNat : Int), .int .u8 (x.x.c.toNat : Int), .int .u8 (x.x.d.toNat : Int), .int .i64 x.n])).run Tryz.prog (W3.alloc (.cells #[.int .u8 (x.x.a.toNat : Int), .int .u8 (x.x.b.toNat : Int), .int .u8 (x.x.c.toNat : Int), .int .u8 (x.x.d.toNat : Int), .int .i64 x.n] 112)).drew = .ok () w8 := hp8
        have HK8 : Hid (Rep B w8 b q (s.mid g t sv (k + 1)) ∧ Fr (foot b s) w w8) := by
          refine ⟨?_, (HK.out.2.alloc _).drew.grown hg8 (fun j hj => Or.inl ?_)⟩
          · have e : s.mid g t sv (k + 1) = { s.mid g t sv k with th := fun g' i' => if g' = g ∧ i' = (k : Int) then x else thK s g k g' i', cnt := s.cnt + k + 1 } := by
              unfold Sto.mid
              rw [← thK_succ s g k hlt', hx]
              rfl
            rw [e]
            exact hr8
          · have : s.mb = j := by
              have e : (s.mid g t sv k).mb = j := by simpa using hj
              exact e
            rw [← this]
            simp [foot]
        clear R4 hp8 hr8 hg8 hv4 hx HK
        go_wp2
        go_region
        go_wp2
        go_roundw
        case rel => exact ⟨k + 1, by omega, by go_num, HK8⟩
        case measure => simp [intOf]; omega
      · have hkk : k = n := by omega
        subst hkk
        go_wp2
        go_end0
        refine ⟨rfl, sv, ?_, HK.out.2, HAT.out⟩
        have := HK.out.1
        rw [← HN.out] at this
        exact this

theorem add_foot {b : Nat} {s : Sto} {g t n : Int} {sv : Value} {N : Nat} (h : ∀ k, sv.ownBlock = some k → s.sv.ownBlock = some k ∨ N ≤ k) {k : Nat} (hk : k ∈ foot b (Sto.add { s with taken := n } g t sv)) : k ∈ foot b s ∨ N ≤ k := by
  simp only [foot, Sto.add, List.mem_append, List.mem_cons, List.not_mem_nil, or_false, Option.mem_toList] at hk ⊢
  rcases hk with ((h1 | h1) | h1) | h1
  · exact Or.inl (Or.inl (Or.inl (Or.inl h1)))
  · exact (h k h1).imp_left (fun h2 => Or.inl (Or.inl (Or.inr h2)))
  · exact Or.inl (Or.inl (Or.inr h1))
  · exact Or.inl (Or.inr h1)

/-- What Snap leaves. -/
def Sto.snap (s : Sto) (t : Int) (sv : Value) : Sto := { s with taken := s.taken + 1 }.add (gu s (s.taken + 1)) t sv

set_option maxRecDepth 100000 in
set_option maxHeartbeats 1600000 in
theorem snap_ok (B b : Nat) (s : Sto) (t : Int) (w : World) (h : Rep B w b 0 s) (ht : 0 ≤ t ∧ t ≤ 1073741824) (h1 : 1 ≤ s.id ∧ s.id ≤ 999) (h2 : 0 ≤ s.taken ∧ s.taken < 999999) (hf : Free s) (hs : s.ss.length < 12) (hm : s.ms.length ≤ 12)
    (hc : 0 ≤ s.came ∧ s.came ≤ 1000000000000) (hv : s.vol.length ≤ 16) (hcnt : s.cnt + s.vol.length < maxLen) (hl : s.log.length ≤ 140000000000000) :
    Calls Tryz.prog 29 #[.pointer (some ⟨b, 0, none⟩), .int .i64 t] w fun e w' => e = .returned (.tuple #[.int .i64 (gu s (s.taken + 1)), .int .i64 0]) ∧ ∃ sv lv, Rep B w' b 0 ((s.snap t sv).noted 83 (n4 t).ba lv) ∧ Fr (foot b s) w w' ∧ (∀ k, sv.ownBlock = some k → s.sv.ownBlock = some k ∨ w.heap.size ≤ k) ∧ (∀ k, lv.ownBlock = some k → s.lv.ownBlock = some k ∨ w.heap.size ≤ k) := by
  have R1 := h.lock 1
  obtain ⟨w1, hw1⟩ : ∃ w1, w.setCell ⟨b, 0, none⟩ (.int .i32 1) = w1 := ⟨_, rfl⟩
  rw [hw1] at R1
  have HL := lock_free Tryz.muLib ⟨b, 0, none⟩ w h.cells.1 (h.frozen 0)
  have F1 : Fr (foot b s) w w1 := by rw [← hw1]; exact fr_lock b s w _
  have HF : Hid (w.setCell ⟨b, 0, none⟩ (.int .i32 1) = w1 ∧ Rep B w1 b 1 s ∧ Fr (foot b s) w w1) := ⟨hw1, R1, F1⟩
  have HN : Hid (Calls Tryz.prog 61 #[.pointer (some ⟨b, 0, none⟩)] w1 fun e w' => e = .returned (.int .i64 (s.taken + 1)) ∧ Fr [] w1 w') := next_any B b 1 s w1 R1 h1 ⟨by omega, by omega⟩ hf (by omega) (by omega)
  obtain ⟨n, hn⟩ : ∃ n, s.taken + 1 = n := ⟨_, rfl⟩
  have hG : In64 (gu s n) := by unfold gu; exact ⟨by omega, by omega⟩
  have HG : Hid (∀ W, Rep B W b 1 { s with taken := n } → _) := fun W hW => guidOf_any B b 1 { s with taken := n } n W hW h1 ⟨by omega, by omega⟩
  have HA : Hid (∀ W, Rep B W b 1 { s with taken := n } → _) := fun W hW => add_any B b 1 { s with taken := n } (gu s n) t W hW hs hc hv hcnt hG
  have HU := fun W => number_any t W
  have HNt : Hid (∀ W sv, Rep B W b 1 (Sto.add { s with taken := n } (gu s n) t sv) → _) := fun W sv hW => note_any B b 1 (Sto.add { s with taken := n } (gu s n) t sv) 83 (n4 t).ba W hW (by show 4 ≤ 1000; omega) hl
  obtain ⟨ao, cap, hsv⟩ := own_shape h.ss
  have t1 : decide (t < 0) = false := by simp; omega
  have t2 : decide (t > 1073741824) = false := by simp; omega
  have t3 : ¬ ((12 : Int) ≤ (s.ss.length : Int)) := by omega
  have t4 : ¬ ((1000000 : Int) ≤ n) := by omega
  unfold Sto.snap
  rw [hn] at HN ⊢
  have hgu : gu { s with taken := n } n = gu s n := rfl
  obtain ⟨g, hg⟩ : ∃ g, gu s n = g := ⟨_, rfl⟩
  rw [hgu, hg] at HG
  rw [hg] at HA HNt ⊢
  obtain ⟨ba, hba⟩ : ∃ ba, (n4 t).ba = ba := ⟨_, rfl⟩
  rw [hba] at HNt ⊢
  simp only [hba] at HU
  have HU' : Hid (∀ W, Calls Tryz.prog 22 #[.int .i64 t] W fun e w' => e = .returned (.string ba) ∧ Fr [] W w') := HU
  clear HU hba
  clear h R1 F1 hw1 hf hn hg hgu hG
  go_enter_defers Tryz.func29, Tryz.ntmps29
  go_wp2_with (first
    | (go_at_call 23; refine HL.mono ?_; rintro e w' ⟨rfl, hw'⟩; rw [HF.out.1] at hw'; subst hw')
    | (go_at_call 61; refine HN.out.mono ?_; rintro e w2 ⟨rfl, hfr⟩
       have HR2 : Hid (Rep B w2 b 1 s ∧ Fr (foot b s) w w2) := ⟨HF.out.2.1.kept0 hfr, HF.out.2.2.trans hfr (by simp)⟩
       have c4 : w2.cell? ⟨b, 4, none⟩ = some (.slice ao s.ss.length cap) := by rw [← hsv]; exact HR2.out.1.cells.2.2.2.1
       have c8 : w2.cell? ⟨b, 8, none⟩ = some (.int .i64 s.taken) := HR2.out.1.cells.2.2.2.2.2.2.2.1
       have f8 := HR2.out.1.frozen 8
       have HR3 : Hid (Rep B (w2.setCell ⟨b, 8, none⟩ (.int .i64 n)) b 1 { s with taken := n } ∧ Fr (foot b s) w (w2.setCell ⟨b, 8, none⟩ (.int .i64 n))) := ⟨HR2.out.1.setTaken n, HR2.out.2.setCell _ (Or.inl (by simp [foot]))⟩
       clear hfr)
    | (go_at_call 62; refine (HG.out _ HR3.out.1).mono ?_; rintro e w' ⟨rfl, hw'⟩; have hw' := hw'.symm; subst hw')
    | (go_at_call 63; refine (HA.out _ HR3.out.1).mono ?_; rintro e w4 ⟨rfl, sv, r4, f4, a4⟩; have HR4 : Hid (Rep B w4 b 1 (Sto.add { s with taken := n } g t sv) ∧ Fr (foot b s) w w4 ∧ (∀ k, sv.ownBlock = some k → s.sv.ownBlock = some k ∨ w.heap.size ≤ k)) := ⟨r4, HR3.out.2.trans f4 (fun k hk => Or.inl hk), fun k hk => (a4 k hk).imp_right (fun h => Nat.le_trans HR3.out.2.size h)⟩; clear r4 f4 a4)
    | (go_at_call 22; refine (HU'.out _).mono ?_; rintro e w5 ⟨rfl, f5⟩; have HR5 : Hid (Rep B w5 b 1 (Sto.add { s with taken := n } g t sv) ∧ Fr (foot b s) w w5) := ⟨HR4.out.1.kept0 f5, HR4.out.2.1.trans f5 (by simp)⟩; clear f5)
    | (go_at_call 21; refine (HNt.out _ sv HR5.out.1).mono ?_; rintro e w6 ⟨rfl, lv, r6, f6, a6⟩; have HR6 : Hid (Rep B w6 b 1 ((Sto.add { s with taken := n } g t sv).noted 83 ba lv) ∧ Fr (foot b s) w w6 ∧ (∀ k, lv.ownBlock = some k → s.lv.ownBlock = some k ∨ w.heap.size ≤ k)) := ⟨r6, HR5.out.2.trans f6 (fun k hk => ?_), fun k hk => (a6 k hk).imp_right (fun h => Nat.le_trans HR5.out.2.size h)⟩; clear r6 f6 a6; rotate_left; exact add_foot HR4.out.2.2 hk))
  refine leaves_cons (f := 24) (args := #[.pointer (some ⟨b, 0, none⟩)]) (by simp) (by simp [go_sem]) ?_
  refine (unlock_deferred Tryz.muLib ⟨b, 0, none⟩ .returning _ HR6.out.1.cells.1 (HR6.out.1.frozen 0)).mono ?_
  rintro e u' w'' ⟨rfl, rfl, rfl⟩
  exact ⟨_, results_tmp2 rfl _ _ _, rfl, sv, lv, HR6.out.1.lock 0, HR6.out.2.1.setCell _ (Or.inl (by simp [foot])), HR4.out.2.2, HR6.out.2.2⟩
end Go.Proofs.YthdhegmlknpllaaGreat
