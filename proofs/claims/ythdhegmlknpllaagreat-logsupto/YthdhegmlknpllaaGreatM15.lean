import Derived.Test.YthdhegmlknpllaaGreatM14
import Derived.Laws.StructEq
namespace Go.Proofs.YthdhegmlknpllaaGreat
open Go.RowKit Go.Maps Go.MuLone
def no4 : ByteArray := ⟨#[0, 0, 0, 0]⟩
def newDat (k : Nat) : List ByteArray := List.replicate k no4 ++ List.replicate (16 - k) ⟨#[]⟩
theorem newDat_len (k : Nat) (h : k ≤ 16) : (newDat k).length = 16 := by simp [newDat]; omega
theorem newDat_set (k : Nat) (h : k < 16) : (newDat k).set k no4 = newDat (k + 1) := by
 unfold newDat
 rw [List.set_append_right _ _ (by simp), List.length_replicate, Nat.sub_self, show 16 - k = (16 - (k + 1)) + 1 by omega, List.replicate_succ, List.set_cons_zero, List.replicate_succ' (n := k), List.append_assoc]
 rfl
def RSto.fresh (id : Int) (n k : Nat) : RSto := { id := id, blocks := n, now := 0, last := 0, dat := newDat k, born := List.replicate 16 0, sh := [], ms := [], sv := .slice none 0 0, mv := .slice none 0 0 }
set_option maxRecDepth 100000 in
set_option maxHeartbeats 1600000 in
theorem rnew_ok (id : Int) (n : Nat) (w : World) (h1 : 1 ≤ id ∧ id ≤ 999) (h2 : 1 ≤ n ∧ n ≤ 16) :
  Calls Tryz.prog 13 #[.int .i64 id, .int .i64 n] w fun e w' => ∃ b, e = .returned (.tuple #[.pointer (some ⟨b, 0, none⟩), .int .i64 0]) ∧ RRep w.heap.size w' b (RSto.fresh id n 16) ∧ Fr [] w w' := by
 have t1 : decide (id < 1) = false := by simp; omega
 have t2 : decide (id > 999) = false := by simp; omega
 have t3 : decide ((n : Int) < 1) = false := by simp; omega
 have t4 : decide ((n : Int) > 16) = false := by simp; omega
 obtain ⟨w1, hw1⟩ : ∃ w1, w.alloc (.cells (RSto.fresh id n 0).cells.toArray 86) = w1 := ⟨_, rfl⟩
 obtain ⟨b, hb⟩ : ∃ b, w.heap.size = b := ⟨_, rfl⟩
 have H0 : Hid (RRep w.heap.size w1 b (RSto.fresh id n 0) ∧ Fr [] w w1) := by
  refine ⟨⟨?_, newDat_len 0 (by omega), by simp [RSto.fresh], fun x hx => by simp [RSto.fresh] at hx, World.ownsRow_nil _ _ _ _, World.ownsRow_nil _ _ _ _, by omega⟩, by rw [← hw1]; exact (Fr.refl _ _).alloc _⟩
  rw [← hw1, ← hb]
  exact heap_alloc_new w _
 have hw1' : w.alloc (.cells #[.int .i64 id, .int .i64 n, .int .i64 0, .int .i64 0, .string ⟨#[]⟩, .string ⟨#[]⟩, .string ⟨#[]⟩, .string ⟨#[]⟩, .string ⟨#[]⟩, .string ⟨#[]⟩, .string ⟨#[]⟩, .string ⟨#[]⟩, .string ⟨#[]⟩, .string ⟨#[]⟩, .string ⟨#[]⟩, .string ⟨#[]⟩, .string ⟨#[]⟩, .string ⟨#[]⟩, .string ⟨#[]⟩, .string ⟨#[]⟩, .int .i64 0, .int .i64 0, .int .i64 0, .int .i64 0, .int .i64 0, .int .i64 0, .int .i64 0, .int .i64 0, .int .i64 0, .int .i64 0, .int .i64 0, .int .i64 0, .int .i64 0, .int .i64 0, .int .i64 0, .int .i64 0, .slice none 0 0, .slice none 0 0] 86) = w1 := hw1
 clear hw1
 go_enter Tryz.func13, Tryz.ntmps13
 go_wp2
 clear hb hw1'
 go_loopw [7] (fun i wr => ∃ k : Nat, k ≤ 16 ∧ i = .int .i64 k ∧ Hid (RRep w.heap.size wr b (RSto.fresh id n k) ∧ Fr [] w wr)) (fun i _ => 16 - (intOf i).toNat)
 case atStart => exact ⟨0, Nat.zero_le _, rfl, H0⟩
 case round =>
  obtain ⟨k, hk, rfl, HK⟩ := hrel
  obtain ⟨W3, hW3⟩ : ∃ W3, W3 = wr := ⟨_, rfl⟩
  subst hW3
  clear H0
  by_cases hlt : k < 16
  · have hltz : (k : Int) < 16 := by omega
    have d4 : ∃ v, W3.cell? ⟨b, 4 + k, none⟩ = some v := ⟨_, HK.out.1.dat k hlt⟩
    obtain ⟨v4, d4⟩ := d4
    have f4 := HK.out.1.frozen (4 + k)
    have HK8 : Hid (RRep w.heap.size (W3.setCell ⟨b, 4 + k, none⟩ (.string ⟨#[0, 0, 0, 0]⟩)) b (RSto.fresh id n (k + 1)) ∧ Fr [] w (W3.setCell ⟨b, 4 + k, none⟩ (.string ⟨#[0, 0, 0, 0]⟩))) := by
     refine ⟨HK.out.1.put (4 + k) _ ?_ (newDat_len _ (by omega)) (by simp [RSto.fresh]) rfl rfl rfl rfl, HK.out.2.setCell _ (Or.inr HK.out.1.hb)⟩
     have := cset_dat (RSto.fresh id n k) (newDat_len k (by omega)) k hlt no4
     rw [show ({ RSto.fresh id n k with dat := (RSto.fresh id n k).dat.set k no4 } : RSto) = RSto.fresh id n (k + 1) by unfold RSto.fresh; rw [← newDat_set k hlt]] at this
     exact this
    clear HK
    go_wp2
    go_roundw
    case rel => exact ⟨k + 1, by omega, by go_num, HK8⟩
    case measure => simp [intOf]; omega
  · have hkk : k = 16 := by omega
    subst hkk
    go_wp2
    go_ret2
    exact ⟨b, rfl, HK.out.1, HK.out.2⟩
set_option maxHeartbeats 800000 in
theorem rnew_bad (id n : Int) (w : World) (h : ((decide (id < 1) || decide (999 < id)) || decide (n < 1)) = true ∨ 16 < n) :
  Calls Tryz.prog 13 #[.int .i64 id, .int .i64 n] w fun e w' => e = .returned (.tuple #[.pointer none, .int .i64 1]) ∧ w' = w := by
 by_cases h1 : id < 1
 · clear h
   go_enter Tryz.func13, Tryz.ntmps13
   go_wp2
   go_ret2
   exact ⟨rfl, rfl⟩
 · by_cases h2 : 999 < id
   · clear h
     go_enter Tryz.func13, Tryz.ntmps13
     go_wp2
     go_ret2
     exact ⟨rfl, rfl⟩
   · by_cases h3 : n < 1
     · clear h
       go_enter Tryz.func13, Tryz.ntmps13
       go_wp2
       go_ret2
       exact ⟨rfl, rfl⟩
     · have h4 : 16 < n := by
         rcases h with h | h
         · simp [h1, h2, h3] at h
         · exact h
       clear h
       go_enter Tryz.func13, Tryz.ntmps13
       go_wp2
       go_ret2
       exact ⟨rfl, rfl⟩
set_option maxHeartbeats 800000 in
theorem new_bad (id n : Int) (w : World) (h : ((decide (id < 1) || decide (999 < id)) || decide (n < 1)) = true ∨ 16 < n) :
  Calls Tryz.prog 12 #[.int .i64 id, .int .i64 n] w fun e w' => e = .returned (.tuple #[.pointer none, .int .i64 1]) ∧ w' = w := by
 by_cases h1 : id < 1
 · clear h
   go_enter Tryz.func12, Tryz.ntmps12
   go_wp2
   go_ret2
   exact ⟨rfl, rfl⟩
 · by_cases h2 : 999 < id
   · clear h
     go_enter Tryz.func12, Tryz.ntmps12
     go_wp2
     go_ret2
     exact ⟨rfl, rfl⟩
   · by_cases h3 : n < 1
     · clear h
       go_enter Tryz.func12, Tryz.ntmps12
       go_wp2
       go_ret2
       exact ⟨rfl, rfl⟩
     · have h4 : 16 < n := by
         rcases h with h | h
         · simp [h1, h2, h3] at h
         · exact h
       clear h
       go_enter Tryz.func12, Tryz.ntmps12
       go_wp2
       go_ret2
       exact ⟨rfl, rfl⟩
def pk (c n : Int) : Int := (if c < 0 then -(c + 1) else c) % n
theorem pk_lt (c n : Int) (h : 1 ≤ n) : 0 ≤ pk c n ∧ pk c n < n := ⟨Int.emod_nonneg _ (by omega), Int.emod_lt_of_pos _ (by omega)⟩
set_option maxHeartbeats 400000 in
theorem pick_any (c n : Int) (w : World) (hc : In64 c) (hn : 1 ≤ n) (hn2 : n ≤ 2000000000) :
  Calls Tryz.prog 8 #[.int .i64 c, .int .i64 n] w fun e w' => e = .returned (.int .i64 (pk c n)) ∧ w' = w := by
 obtain ⟨c1, c2⟩ := hc
 have hz : ¬ n = 0 := by omega
 by_cases h0 : c < 0
 · have hr := pk_lt c n hn
   have e : (-(c + 1)).tmod n = pk c n := by unfold pk; rw [if_pos h0, Int.tmod_eq_emod_of_nonneg (by omega)]
   rw [Int.neg_tmod] at e
   go_enter Tryz.func8, Tryz.ntmps8
   go_wp2
   go_ret
   refine ⟨ret_int ?_, rfl⟩
   go_num
 · have hr := pk_lt c n hn
   have e : c.tmod n = pk c n := by unfold pk; rw [if_neg h0, Int.tmod_eq_emod_of_nonneg (by omega)]
   rw [Int.tmod_eq_emod_of_nonneg (by omega)] at e
   go_enter Tryz.func8, Tryz.ntmps8
   go_wp2
   go_ret
   refine ⟨ret_int ?_, rfl⟩
   go_num
set_option maxHeartbeats 1000000 in
theorem sameInts_any (a1 a2 : Option Addr) (zs : List Int) (p1 p2 : Nat) (w : World) (h1 : RowG w a1 zs p1) (h2 : RowG w a2 zs p2) (hl : zs.length ≤ 2000000) :
  Calls Tryz.prog 47 #[.slice a1 zs.length p1, .slice a2 zs.length p2] w fun e w' => e = .returned (.bool true) ∧ ∃ q, w' = w.drewN q := by
 have HO : Hid (RowG w a1 zs p1 ∧ RowG w a2 zs p2) := ⟨h1, h2⟩
 clear h1 h2
 go_enter Tryz.func47, Tryz.ntmps47
 go_wp2
 go_loopw [5] (fun i wr => ∃ (k q : Nat), k ≤ zs.length ∧ i = .int .i64 k ∧ wr = w.drewN q) (fun i _ => zs.length - (intOf i).toNat)
 case atStart => exact ⟨0, 0, Nat.zero_le _, rfl, rfl⟩
 case round =>
  obtain ⟨k, q, hk, rfl, rfl⟩ := hrel
  by_cases hlt : k < zs.length
  · obtain ⟨b1, o1, hb1, hc1⟩ := HO.out.1.2 (by omega)
    obtain ⟨b2, o2, hb2, hc2⟩ := HO.out.2.2 (by omega)
    subst hb1
    subst hb2
    have e1 := HO.out.1.1
    have e2 := HO.out.2.1
    obtain ⟨z, hz⟩ : ∃ z, tm zs k = z := ⟨_, rfl⟩
    have d1 : ∀ m, (w.drewN m).cell? ⟨b1, o1 + k, none⟩ = some (.int .i64 z) := fun m => by rw [← hz]; exact hc1 k hlt
    have d2 : ∀ m, (w.drewN m).cell? ⟨b2, o2 + k, none⟩ = some (.int .i64 z) := fun m => by rw [← hz]; exact hc2 k hlt
    have hltz : (k : Int) < (zs.length : Int) := by omega
    clear hc1 hc2 hz
    go_wp2
    go_quiet (fail)
    go_wp2
    go_roundw
    case rel => exact ⟨k + 1, q + nq, by omega, by go_num, by first | rfl | trivial | simp [World.drewN, Nat.add_assoc]⟩
    case measure => simp [intOf]; omega
  · have hkk : k = zs.length := by omega
    subst hkk
    go_wp2
    go_ret
    exact ⟨rfl, q, rfl⟩
def Row3 (w : World) (ao : Option Addr) (l : List (Int × Int × Int)) (cap : Nat) : Prop :=
 l.length ≤ cap ∧ (0 < l.length → ∃ b off, ao = some ⟨b, off, none⟩ ∧ ∀ i (h : i < l.length), w.cell? ⟨b, off + i * 3, none⟩ = some (.int .i64 l[i].1) ∧ w.cell? ⟨b, off + i * 3 + 1, none⟩ = some (.int .i64 l[i].2.1) ∧ w.cell? ⟨b, off + i * 3 + 2, none⟩ = some (.int .i64 l[i].2.2))
theorem tlC_get (l : List (Int × Int × Int)) (i : Nat) (h : i < l.length) : (tlC l)[i * 3]? = some (.int .i64 l[i].1) ∧ (tlC l)[i * 3 + 1]? = some (.int .i64 l[i].2.1) ∧ (tlC l)[i * 3 + 2]? = some (.int .i64 l[i].2.2) := by
 have hf : ∀ x, (t3c x).length = 3 := fun _ => rfl
 exact ⟨flat_get hf l i h 0 (by omega), flat_get hf l i h 1 (by omega), flat_get hf l i h 2 (by omega)⟩
theorem row3_blk {w : World} {g : Nat} {l : List (Int × Int × Int)} (h : w.heap[g]? = some (.cells (tlC l).toArray 61 (0, 0))) : Row3 w (some ⟨g, 0, none⟩) l l.length := by
 refine ⟨Nat.le_refl _, fun _ => ⟨g, 0, rfl, fun i hi => ?_⟩⟩
 have hg := tlC_get l i hi
 refine ⟨?_, ?_, ?_⟩ <;> rw [cell_of h, List.getElem?_toArray, Nat.zero_add]
 · exact hg.1
 · exact hg.2.1
 · exact hg.2.2
theorem row3_own {w : World} {base : Nat} {ao : Option Addr} {n cap : Nat} {l : List (Int × Int × Int)} (hn : l.length = n) (h : w.ownsRow base 61 3 (.slice ao n cap) n (tlC l)) : Row3 w ao l cap := by
 subst hn
 rcases h.2 with ⟨h1, h2⟩ | ⟨g, c, cur, h1, hb, hg, hc, hm, hs, ht⟩
 · simp at h1
   exact ⟨by omega, fun h => by omega⟩
 · simp at h1
   obtain ⟨rfl, rfl⟩ := h1
   refine ⟨hc, fun _ => ⟨g, 0, rfl, fun i hi => ?_⟩⟩
   have hq := tlC_get l i hi
   have hcell : ∀ j, j < l.length * 3 → w.cell? ⟨g, j, none⟩ = (tlC l)[j]? := fun j hj => by
    rw [cell_of hg, ← ht, List.getElem?_take_of_lt hj, ← Array.getElem?_toList]
   refine ⟨?_, ?_, ?_⟩ <;> rw [Nat.zero_add, hcell _ (by omega)]
   · exact hq.1
   · exact hq.2.1
   · exact hq.2.2
theorem neq61 (W : World) (a b c : Int) : (binOp .neq 61 (.agg #[.int .i64 a, .int .i64 b, .int .i64 c]) (.agg #[.int .i64 a, .int .i64 b, .int .i64 c])).run Tryz.prog W = .ok (.bool false) W := by
 have u3 := Tryz.underlying3
 have a3 := Tryz.isAgg3
 have z3 := Tryz.sizeOf3
 have hS : Tryz.prog.underlying 61 = some (.struct (Tryz.prog.fieldsOf 61)) := by kernel_rfl
 have hp : Tryz.prog.stoodInHeld 61 = false := by kernel_rfl
 rw [run_neq_struct, show (10000 : Nat) = 9999 + 1 from rfl, run_equalIn_agg W 9999 61 _ _ hS hp]
 simp only [Program.fieldsOf, Tryz.underlying61]
 go_simp
set_option maxRecDepth 100000 in
set_option maxHeartbeats 1000000 in
theorem sameSnaps_any (a1 a2 : Option Addr) (l : List (Int × Int × Int)) (p1 p2 : Nat) (w : World) (h1 : Row3 w a1 l p1) (h2 : Row3 w a2 l p2) (hl : l.length ≤ 2000000) :
  Calls Tryz.prog 32 #[.slice a1 l.length p1, .slice a2 l.length p2] w fun e w' => e = .returned (.bool true) ∧ ∃ q, w' = w.drewN q := by
 have HO : Hid (Row3 w a1 l p1 ∧ Row3 w a2 l p2) := ⟨h1, h2⟩
 have hm : Tryz.prog.eqGuardType Tryz.prog.depth 61 = false := by kernel_rfl
 clear h1 h2
 go_enter Tryz.func32, Tryz.ntmps32
 go_wp2
 go_loopw [5] (fun i wr => ∃ (k q : Nat), k ≤ l.length ∧ i = .int .i64 k ∧ wr = w.drewN q) (fun i _ => l.length - (intOf i).toNat)
 case atStart => exact ⟨0, 0, Nat.zero_le _, rfl, rfl⟩
 case round =>
  obtain ⟨k, q, hk, rfl, rfl⟩ := hrel
  by_cases hlt : k < l.length
  · obtain ⟨b1, o1, hb1, hc1⟩ := HO.out.1.2 (by omega)
    obtain ⟨b2, o2, hb2, hc2⟩ := HO.out.2.2 (by omega)
    subst hb1
    subst hb2
    have e1 := HO.out.1.1
    have e2 := HO.out.2.1
    obtain ⟨⟨x, y, z⟩, hz⟩ : ∃ z, l[k] = z := ⟨_, rfl⟩
    have q1 := hc1 k hlt
    have q2 := hc2 k hlt
    rw [hz] at q1 q2
    have d1 : ∀ m, (w.drewN m).cell? ⟨b1, o1 + k * 3, none⟩ = some (.int .i64 x) := fun m => q1.1
    have d2 : ∀ m, (w.drewN m).cell? ⟨b1, o1 + k * 3 + 1, none⟩ = some (.int .i64 y) := fun m => q1.2.1
    have d3 : ∀ m, (w.drewN m).cell? ⟨b1, o1 + k * 3 + 2, none⟩ = some (.int .i64 z) := fun m => q1.2.2
    have d4 : ∀ m, (w.drewN m).cell? ⟨b2, o2 + k * 3, none⟩ = some (.int .i64 x) := fun m => q2.1
    have d5 : ∀ m, (w.drewN m).cell? ⟨b2, o2 + k * 3 + 1, none⟩ = some (.int .i64 y) := fun m => q2.2.1
    have d6 : ∀ m, (w.drewN m).cell? ⟨b2, o2 + k * 3 + 2, none⟩ = some (.int .i64 z) := fun m => q2.2.2
    have hne := fun W => neq61 W x y z
    have hltz : (k : Int) < (l.length : Int) := by omega
    clear hc1 hc2 hz q1 q2
    go_wp2
    go_quiet (fail)
    go_wp2
    go_roundw
    case rel => exact ⟨k + 1, q + nq, by omega, by go_num, by first | rfl | trivial | simp [World.drewN, Nat.add_assoc]⟩
    case measure => simp [intOf]; omega
  · have hkk : k = l.length := by omega
    subst hkk
    go_wp2
    go_ret
    exact ⟨rfl, q, rfl⟩
set_option maxHeartbeats 800000 in
theorem read_bad (B b : Nat) (s : Sto) (k : Int) (w : World) (h : Rep B w b 0 s) (hk : (decide (0 ≤ k) && decide (k < s.vol.length)) = false) :
  Calls Tryz.prog 27 #[.pointer (some ⟨b, 0, none⟩), .int .i64 k] w fun e w' => e = .returned (.tuple #[.string ⟨#[]⟩, .int .i64 1]) ∧ Rep B w' b 0 s ∧ Fr (foot b s) w w' := by
 obtain ⟨w1, hw1, R1⟩ := h.lk
 have HL := lock_free Tryz.muLib ⟨b, 0, none⟩ w h.cells.1 (h.frozen 0)
 have F1 := lkF s hw1
 have HF : Hid (w.setCell ⟨b, 0, none⟩ (.int .i32 1) = w1 ∧ Rep B w1 b 1 s ∧ Fr (foot b s) w w1) := ⟨hw1, R1, F1⟩
 have HR2 : Hid (Rep B w1 b 1 s ∧ Fr (foot b s) w w1) := ⟨R1, F1⟩
 have HC : Hid (∀ W, _) := fun W => hasBlock_any B b 1 s k W
 clear h hw1 R1 F1
 go_enter_defers Tryz.func27, Tryz.ntmps27
 go_wp2_with (first
  | (go_at_call 23; refine HL.mono ?_; rintro e w' ⟨rfl, hw'⟩; rw [HF.out.1] at hw'; have hw' := hw'.symm; subst hw')
  | (go_at_call 60; refine (HC.out _ HF.out.2.1).mono ?_; rintro e w' ⟨rfl, hw'⟩; have hw' := hw'.symm; subst hw'; rw [hk]))
 refine leaves_cons (f := 24) (args := #[.pointer (some ⟨b, 0, none⟩)]) (by simp) (by simp [go_sem]) ?_
 refine (unlock_deferred Tryz.muLib ⟨b, 0, none⟩ .returning _ HR2.out.1.cells.1 (HR2.out.1.frozen 0)).mono ?_
 rintro e u' w'' ⟨rfl, rfl, rfl⟩
 exact ⟨_, results_tmp2 rfl _ _ _, rfl, HR2.out.1.lock 0, HR2.out.2.setCell _ (Or.inl (by simp [foot]))⟩
set_option maxHeartbeats 800000 in
theorem hold_none (B b : Nat) (s : Sto) (g : Int) (w : World) (h : Rep B w b 0 s) (hl : s.ss.length ≤ 12) (hf : fi (fun y : Sn => y.guid == g) 0 s.ss = -1) :
  Calls Tryz.prog 37 #[.pointer (some ⟨b, 0, none⟩), .int .i64 g] w fun e w' => e = .returned (.int .i64 3) ∧ Rep B w' b 0 s ∧ Fr (foot b s) w w' := by
 obtain ⟨w1, hw1, R1⟩ := h.lk
 have HL := lock_free Tryz.muLib ⟨b, 0, none⟩ w h.cells.1 (h.frozen 0)
 have F1 := lkF s hw1
 have HF : Hid (w.setCell ⟨b, 0, none⟩ (.int .i32 1) = w1 ∧ Rep B w1 b 1 s ∧ Fr (foot b s) w w1) := ⟨hw1, R1, F1⟩
 have HR2 : Hid (Rep B w1 b 1 s ∧ Fr (foot b s) w w1) := ⟨R1, F1⟩
 have HS := findSnapshot_any B b 1 s g w1 R1 (by omega)
 rw [hf] at HS
 clear h hw1 R1 F1 HR2 hf
 go_enter_defers Tryz.func37, Tryz.ntmps37
 go_wp2_with (first
  | (go_at_call 23; refine HL.mono ?_; rintro e w' ⟨rfl, hw'⟩; rw [HF.out.1] at hw'; have hw' := hw'.symm; subst hw')
  | (go_at_call 65; refine HS.mono ?_; rintro e w2 ⟨rfl, hfr⟩
     have HR2 : Hid (Rep B w2 b 1 s ∧ Fr (foot b s) w w2) := ⟨HF.out.2.1.kept0 hfr, HF.out.2.2.trans hfr (by simp)⟩
     clear hfr))
 refine leaves_cons (f := 24) (args := #[.pointer (some ⟨b, 0, none⟩)]) (by simp) (by simp [go_sem]) ?_
 refine (unlock_deferred Tryz.muLib ⟨b, 0, none⟩ .returning _ HR2.out.1.cells.1 (HR2.out.1.frozen 0)).mono ?_
 rintro e u' w'' ⟨rfl, rfl, rfl⟩
 exact ⟨_, results_tmp rfl _ _ _, rfl, HR2.out.1.lock 0, HR2.out.2.setCell _ (Or.inl (by simp [foot]))⟩
set_option maxHeartbeats 800000 in
theorem release_none (B b : Nat) (s : Sto) (g : Int) (w : World) (h : Rep B w b 0 s) (hl : s.ss.length ≤ 12) (hf : fi (fun y : Sn => y.guid == g) 0 s.ss = -1) :
  Calls Tryz.prog 39 #[.pointer (some ⟨b, 0, none⟩), .int .i64 g] w fun e w' => e = .returned (.int .i64 3) ∧ Rep B w' b 0 s ∧ Fr (foot b s) w w' := by
 obtain ⟨w1, hw1, R1⟩ := h.lk
 have HL := lock_free Tryz.muLib ⟨b, 0, none⟩ w h.cells.1 (h.frozen 0)
 have F1 := lkF s hw1
 have HF : Hid (w.setCell ⟨b, 0, none⟩ (.int .i32 1) = w1 ∧ Rep B w1 b 1 s ∧ Fr (foot b s) w w1) := ⟨hw1, R1, F1⟩
 have HR2 : Hid (Rep B w1 b 1 s ∧ Fr (foot b s) w w1) := ⟨R1, F1⟩
 have HS := findSnapshot_any B b 1 s g w1 R1 (by omega)
 rw [hf] at HS
 clear h hw1 R1 F1 HR2 hf
 go_enter_defers Tryz.func39, Tryz.ntmps39
 go_wp2_with (first
  | (go_at_call 23; refine HL.mono ?_; rintro e w' ⟨rfl, hw'⟩; rw [HF.out.1] at hw'; have hw' := hw'.symm; subst hw')
  | (go_at_call 65; refine HS.mono ?_; rintro e w2 ⟨rfl, hfr⟩
     have HR2 : Hid (Rep B w2 b 1 s ∧ Fr (foot b s) w w2) := ⟨HF.out.2.1.kept0 hfr, HF.out.2.2.trans hfr (by simp)⟩
     clear hfr))
 refine leaves_cons (f := 24) (args := #[.pointer (some ⟨b, 0, none⟩)]) (by simp) (by simp [go_sem]) ?_
 refine (unlock_deferred Tryz.muLib ⟨b, 0, none⟩ .returning _ HR2.out.1.cells.1 (HR2.out.1.frozen 0)).mono ?_
 rintro e u' w'' ⟨rfl, rfl, rfl⟩
 exact ⟨_, results_tmp rfl _ _ _, rfl, HR2.out.1.lock 0, HR2.out.2.setCell _ (Or.inl (by simp [foot]))⟩
set_option maxHeartbeats 800000 in
theorem at_none (B b : Nat) (s : Sto) (g : Int) (k : Int) (w : World) (h : Rep B w b 0 s) (hl : s.ss.length ≤ 12) (hf : fi (fun y : Sn => y.guid == g) 0 s.ss = -1) :
  Calls Tryz.prog 35 #[.pointer (some ⟨b, 0, none⟩), .int .i64 g, .int .i64 k] w fun e w' => e = .returned (.tuple #[.string ⟨#[]⟩, .int .i64 3]) ∧ Rep B w' b 0 s ∧ Fr (foot b s) w w' := by
 obtain ⟨w1, hw1, R1⟩ := h.lk
 have HL := lock_free Tryz.muLib ⟨b, 0, none⟩ w h.cells.1 (h.frozen 0)
 have F1 := lkF s hw1
 have HF : Hid (w.setCell ⟨b, 0, none⟩ (.int .i32 1) = w1 ∧ Rep B w1 b 1 s ∧ Fr (foot b s) w w1) := ⟨hw1, R1, F1⟩
 have HR2 : Hid (Rep B w1 b 1 s ∧ Fr (foot b s) w w1) := ⟨R1, F1⟩
 have HS := findSnapshot_any B b 1 s g w1 R1 (by omega)
 rw [hf] at HS
 clear h hw1 R1 F1 HR2 hf
 go_enter_defers Tryz.func35, Tryz.ntmps35
 go_wp2_with (first
  | (go_at_call 23; refine HL.mono ?_; rintro e w' ⟨rfl, hw'⟩; rw [HF.out.1] at hw'; have hw' := hw'.symm; subst hw')
  | (go_at_call 65; refine HS.mono ?_; rintro e w2 ⟨rfl, hfr⟩
     have HR2 : Hid (Rep B w2 b 1 s ∧ Fr (foot b s) w w2) := ⟨HF.out.2.1.kept0 hfr, HF.out.2.2.trans hfr (by simp)⟩
     clear hfr))
 refine leaves_cons (f := 24) (args := #[.pointer (some ⟨b, 0, none⟩)]) (by simp) (by simp [go_sem]) ?_
 refine (unlock_deferred Tryz.muLib ⟨b, 0, none⟩ .returning _ HR2.out.1.cells.1 (HR2.out.1.frozen 0)).mono ?_
 rintro e u' w'' ⟨rfl, rfl, rfl⟩
 exact ⟨_, results_tmp2 rfl _ _ _, rfl, HR2.out.1.lock 0, HR2.out.2.setCell _ (Or.inl (by simp [foot]))⟩
set_option maxHeartbeats 800000 in
theorem at_arg (B b : Nat) (s : Sto) (g : Int) (j : Nat) (k : Int) (w : World) (h : Rep B w b 0 s) (hl : s.ss.length ≤ 12) (hf : fi (fun y : Sn => y.guid == g) 0 s.ss = (j : Int)) (hk : (decide (0 ≤ k) && decide (k < s.vol.length)) = false) :
  Calls Tryz.prog 35 #[.pointer (some ⟨b, 0, none⟩), .int .i64 g, .int .i64 k] w fun e w' => e = .returned (.tuple #[.string ⟨#[]⟩, .int .i64 1]) ∧ Rep B w' b 0 s ∧ Fr (foot b s) w w' := by
 obtain ⟨w1, hw1, R1⟩ := h.lk
 have HL := lock_free Tryz.muLib ⟨b, 0, none⟩ w h.cells.1 (h.frozen 0)
 have F1 := lkF s hw1
 have HF : Hid (w.setCell ⟨b, 0, none⟩ (.int .i32 1) = w1 ∧ Rep B w1 b 1 s ∧ Fr (foot b s) w w1) := ⟨hw1, R1, F1⟩
 have HR2 : Hid (Rep B w1 b 1 s ∧ Fr (foot b s) w w1) := ⟨R1, F1⟩
 have HS := findSnapshot_any B b 1 s g w1 R1 (by omega)
 rw [hf] at HS
 have HC : Hid (∀ W, _) := fun W => hasBlock_any B b 1 s k W
 have j0 : ¬ ((j : Int) < 0) := by omega
 clear h hw1 R1 F1 HR2 hf
 go_enter_defers Tryz.func35, Tryz.ntmps35
 go_wp2_with (first
  | (go_at_call 23; refine HL.mono ?_; rintro e w' ⟨rfl, hw'⟩; rw [HF.out.1] at hw'; have hw' := hw'.symm; subst hw')
  | (go_at_call 65; refine HS.mono ?_; rintro e w2 ⟨rfl, hfr⟩
     have HR2 : Hid (Rep B w2 b 1 s ∧ Fr (foot b s) w w2) := ⟨HF.out.2.1.kept0 hfr, HF.out.2.2.trans hfr (by simp)⟩
     clear hfr)
  | (go_at_call 60; refine (HC.out _ HR2.out.1).mono ?_; rintro e w' ⟨rfl, hw'⟩; have hw' := hw'.symm; subst hw'; rw [hk]))
 refine leaves_cons (f := 24) (args := #[.pointer (some ⟨b, 0, none⟩)]) (by simp) (by simp [go_sem]) ?_
 refine (unlock_deferred Tryz.muLib ⟨b, 0, none⟩ .returning _ HR2.out.1.cells.1 (HR2.out.1.frozen 0)).mono ?_
 rintro e u' w'' ⟨rfl, rfl, rfl⟩
 exact ⟨_, results_tmp2 rfl _ _ _, rfl, HR2.out.1.lock 0, HR2.out.2.setCell _ (Or.inl (by simp [foot]))⟩
set_option maxHeartbeats 800000 in
theorem snap_arg (B b : Nat) (s : Sto) (t : Int) (w : World) (h : Rep B w b 0 s) (ht : t < 0 ∨ 1073741824 < t) :
  Calls Tryz.prog 29 #[.pointer (some ⟨b, 0, none⟩), .int .i64 t] w fun e w' => e = .returned (.tuple #[.int .i64 0, .int .i64 1]) ∧ Rep B w' b 0 s ∧ Fr (foot b s) w w' := by
 obtain ⟨w1, hw1, R1⟩ := h.lk
 have HL := lock_free Tryz.muLib ⟨b, 0, none⟩ w h.cells.1 (h.frozen 0)
 have F1 := lkF s hw1
 have HF : Hid (w.setCell ⟨b, 0, none⟩ (.int .i32 1) = w1 ∧ Rep B w1 b 1 s ∧ Fr (foot b s) w w1) := ⟨hw1, R1, F1⟩
 have HR2 : Hid (Rep B w1 b 1 s ∧ Fr (foot b s) w w1) := ⟨R1, F1⟩
 clear h hw1 R1 F1
 by_cases h0 : t < 0
 · clear ht
   go_enter_defers Tryz.func29, Tryz.ntmps29
   go_wp2_with (first
    | (go_at_call 23; refine HL.mono ?_; rintro e w' ⟨rfl, hw'⟩; rw [HF.out.1] at hw'; have hw' := hw'.symm; subst hw'))
   refine leaves_cons (f := 24) (args := #[.pointer (some ⟨b, 0, none⟩)]) (by simp) (by simp [go_sem]) ?_
   refine (unlock_deferred Tryz.muLib ⟨b, 0, none⟩ .returning _ HR2.out.1.cells.1 (HR2.out.1.frozen 0)).mono ?_
   rintro e u' w'' ⟨rfl, rfl, rfl⟩
   exact ⟨_, results_tmp2 rfl _ _ _, rfl, HR2.out.1.lock 0, HR2.out.2.setCell _ (Or.inl (by simp [foot]))⟩
 · have h1 : 1073741824 < t := by omega
   clear ht
   go_enter_defers Tryz.func29, Tryz.ntmps29
   go_wp2_with (first
    | (go_at_call 23; refine HL.mono ?_; rintro e w' ⟨rfl, hw'⟩; rw [HF.out.1] at hw'; have hw' := hw'.symm; subst hw'))
   refine leaves_cons (f := 24) (args := #[.pointer (some ⟨b, 0, none⟩)]) (by simp) (by simp [go_sem]) ?_
   refine (unlock_deferred Tryz.muLib ⟨b, 0, none⟩ .returning _ HR2.out.1.cells.1 (HR2.out.1.frozen 0)).mono ?_
   rintro e u' w'' ⟨rfl, rfl, rfl⟩
   exact ⟨_, results_tmp2 rfl _ _ _, rfl, HR2.out.1.lock 0, HR2.out.2.setCell _ (Or.inl (by simp [foot]))⟩
set_option maxRecDepth 100000 in
set_option maxHeartbeats 800000 in
theorem snap_full (B b : Nat) (s : Sto) (n t : Int) (w : World) (h : Rep B w b 0 s) (ht : 0 ≤ t ∧ t ≤ 1073741824) (h1 : 1 ≤ s.id ∧ s.id ≤ 999) (h2 : 0 ≤ s.taken ∧ s.taken ≤ 999999) (hf : Nxt s n) (hs : s.ss.length ≤ 12) (hm : s.ms.length ≤ 12) (hfull : s.ss.length = 12 ∨ 999999 < n) :
  Calls Tryz.prog 29 #[.pointer (some ⟨b, 0, none⟩), .int .i64 t] w fun e w' => e = .returned (.tuple #[.int .i64 0, .int .i64 5]) ∧ Rep B w' b 0 s ∧ Fr (foot b s) w w' := by
 obtain ⟨w1, hw1, R1⟩ := h.lk
 have HL := lock_free Tryz.muLib ⟨b, 0, none⟩ w h.cells.1 (h.frozen 0)
 have F1 := lkF s hw1
 have HF : Hid (w.setCell ⟨b, 0, none⟩ (.int .i32 1) = w1 ∧ Rep B w1 b 1 s ∧ Fr (foot b s) w w1) := ⟨hw1, R1, F1⟩
 have HR2 : Hid (Rep B w1 b 1 s ∧ Fr (foot b s) w w1) := ⟨R1, F1⟩
 have HN : Hid (Calls Tryz.prog 61 #[.pointer (some ⟨b, 0, none⟩)] w1 fun e w' => e = .returned (.int .i64 n) ∧ Fr [] w1 w') := next_any B b 1 s n w1 R1 h1 ⟨by omega, by omega⟩ hf (by omega) (by omega)
 obtain ⟨ao, cap, hsv⟩ := own_shape h.ss
 obtain ⟨m, hm'⟩ : ∃ m, s.ss.length = m := ⟨_, rfl⟩
 have HV : Hid (s.sv = .slice ao m cap) := by show _ = _; rw [hsv, hm']
 have t1 : decide (t < 0) = false := by simp; omega
 have t2 : decide (t > 1073741824) = false := by simp; omega
 have hfull' : (12 : Int) ≤ (m : Int) ∨ (1000000 : Int) ≤ n := by omega
 clear h R1 F1 hw1 hf hsv hm' hfull HR2
 by_cases h0 : (12 : Int) ≤ (m : Int)
 · go_enter_defers Tryz.func29, Tryz.ntmps29
   go_wp2_with (first
    | (go_at_call 23; refine HL.mono ?_; rintro e w' ⟨rfl, hw'⟩; rw [HF.out.1] at hw'; have hw' := hw'.symm; subst hw')
    | (go_at_call 61; refine HN.out.mono ?_; rintro e w2 ⟨rfl, hfr⟩
       have HR2 : Hid (Rep B w2 b 1 s ∧ Fr (foot b s) w w2) := ⟨HF.out.2.1.kept0 hfr, HF.out.2.2.trans hfr (by simp)⟩
       have c4 : w2.cell? ⟨b, 4, none⟩ = some (.slice ao m cap) := by rw [← HV.out]; exact HR2.out.1.cells.2.2.2.1
       clear hfr))
   refine leaves_cons (f := 24) (args := #[.pointer (some ⟨b, 0, none⟩)]) (by simp) (by simp [go_sem]) ?_
   refine (unlock_deferred Tryz.muLib ⟨b, 0, none⟩ .returning _ HR2.out.1.cells.1 (HR2.out.1.frozen 0)).mono ?_
   rintro e u' w'' ⟨rfl, rfl, rfl⟩
   exact ⟨_, results_tmp2 rfl _ _ _, rfl, HR2.out.1.lock 0, HR2.out.2.setCell _ (Or.inl (by simp [foot]))⟩
 · have h0' : (1000000 : Int) ≤ n := by omega
   go_enter_defers Tryz.func29, Tryz.ntmps29
   go_wp2_with (first
    | (go_at_call 23; refine HL.mono ?_; rintro e w' ⟨rfl, hw'⟩; rw [HF.out.1] at hw'; have hw' := hw'.symm; subst hw')
    | (go_at_call 61; refine HN.out.mono ?_; rintro e w2 ⟨rfl, hfr⟩
       have HR2 : Hid (Rep B w2 b 1 s ∧ Fr (foot b s) w w2) := ⟨HF.out.2.1.kept0 hfr, HF.out.2.2.trans hfr (by simp)⟩
       have c4 : w2.cell? ⟨b, 4, none⟩ = some (.slice ao m cap) := by rw [← HV.out]; exact HR2.out.1.cells.2.2.2.1
       clear hfr))
   refine leaves_cons (f := 24) (args := #[.pointer (some ⟨b, 0, none⟩)]) (by simp) (by simp [go_sem]) ?_
   refine (unlock_deferred Tryz.muLib ⟨b, 0, none⟩ .returning _ HR2.out.1.cells.1 (HR2.out.1.frozen 0)).mono ?_
   rintro e u' w'' ⟨rfl, rfl, rfl⟩
   exact ⟨_, results_tmp2 rfl _ _ _, rfl, HR2.out.1.lock 0, HR2.out.2.setCell _ (Or.inl (by simp [foot]))⟩
end Go.Proofs.YthdhegmlknpllaaGreat
