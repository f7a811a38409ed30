/-
  The reference's New (11).
-/
import Derived.Test.YthdhegmlknpllaaGreatRsn
namespace Go.Proofs.YthdhegmlknpllaaGreat
open Go.RowKit Go.Maps Go.MuLone

def no4 : ByteArray := ⟨#[0, 0, 0, 0]⟩
def newDat (k : Nat) : List ByteArray := List.replicate k no4 ++ List.replicate (16 - k) ⟨#[]⟩
theorem newDat_len (k : Nat) (h : k ≤ 16) : (newDat k).length = 16 := by simp [newDat]; omega
theorem newDat_set (k : Nat) (h : k < 16) : (newDat k).set k no4 = newDat (k + 1) := by
  unfold newDat
  rw [List.set_append_right _ _ (by simp), List.length_replicate, Nat.sub_self, show 16 - k = (16 - (k + 1)) + 1 by omega, List.replicate_succ, List.set_cons_zero, List.replicate_succ' (n := k), List.append_assoc]
  rfl
def RSto.fresh (id : Int) (n k : Nat) : RSto := { id := id, blocks := n, now := 0, last := 0, dat := newDat k, born := List.replicate 16 0, sh := [], ms := [], sv := .slice none 0 0, mv := .slice none 0 0 }

set_option maxRecDepth 100000 in
set_option maxHeartbeats 1600000 in
theorem rnew_ok (id : Int) (n : Nat) (w : World) (h1 : 1 ≤ id ∧ id ≤ 999) (h2 : 1 ≤ n ∧ n ≤ 16) :
    Calls Tryz.prog 13 #[.int .i64 id, .int .i64 n] w fun e w' => ∃ b, e = .returned (.tuple #[.pointer (some ⟨b, 0, none⟩), .int .i64 0]) ∧ RRep w.heap.size w' b (RSto.fresh id n 16) ∧ Fr [] w w' := by
  have t1 : decide (id < 1) = false := by simp; omega
  have t2 : decide (id > 999) = false := by simp; omega
  have t3 : decide ((n : Int) < 1) = false := by simp; omega
  have t4 : decide ((n : Int) > 16) = false := by simp; omega
  obtain ⟨w1, hw1⟩ : ∃ w1, w.alloc (.cells (RSto.fresh id n 0).cells.toArray 86) = w1 := ⟨_, rfl⟩
  obtain ⟨b, hb⟩ : ∃ b, w.heap.size = b := ⟨_, rfl⟩
  have H0 : Hid (RRep w.heap.size w1 b (RSto.fresh id n 0) ∧ Fr [] w w1) := by
    refine ⟨⟨?_, newDat_len 0 (by omega), by simp [RSto.fresh], fun x hx => by simp [RSto.fresh] at hx, World.ownsRow_nil _ _ _ _, World.ownsRow_nil _ _ _ _, by omega⟩, by rw [← hw1]; exact (Fr.refl _ _).alloc _⟩
    rw [← hw1, ← hb]
    exact heap_alloc_new w _
  have hw1' : w.alloc (.cells #[.int .i64 id, .int .i64 n, .int .i64 0, .int .i64 0, .string ⟨#[]⟩, .string ⟨#[]⟩, .string ⟨#[]⟩, .string ⟨#[]⟩, .string ⟨#[]⟩, .string ⟨#[]⟩, .string ⟨#[]⟩, .string ⟨#[]⟩, .string ⟨#[]⟩, .string ⟨#[]⟩, .string ⟨#[]⟩, .string ⟨#[]⟩, .string ⟨#[]⟩, .string ⟨#[]⟩, .string ⟨#[]⟩, .string ⟨#[]⟩, .int .i64 0, .int .i64 0, .int .i64 0, .int .i64 0, .int .i64 0, .int .i64 0, .int .i64 0, .int .i64 0, .int .i64 0, .int .i64 0, .int .i64 0, .int .i64 0, .int .i64 0, .int .i64 0, .int .i64 0, .int .i64 0, .slice none 0 0, .slice none 0 0] 86) = w1 := hw1
  clear hw1
  go_enter Tryz.func13, Tryz.ntmps13
  go_wp2
  clear hb hw1'
  go_loopw [7] (fun i wr => ∃ k : Nat, k ≤ 16 ∧ i = .int .i64 k ∧ Hid (RRep w.heap.size wr b (RSto.fresh id n k) ∧ Fr [] w wr)) (fun i _ => 16 - (intOf i).toNat)
  case atStart => exact ⟨0, Nat.zero_le _, rfl, H0⟩
  case round =>
    obtain ⟨k, hk, rfl, HK⟩ := hrel
    obtain ⟨W3, hW3⟩ : ∃ W3, W3 = wr := ⟨_, rfl⟩
    subst hW3
    clear H0
    by_cases hlt : k < 16
    · have hltz : (k : Int) < 16 := by omega
      have d4 : ∃ v, W3.cell? ⟨b, 4 + k, none⟩ = some v := ⟨_, HK.out.1.dat k hlt⟩
      obtain ⟨v4, d4⟩ := d4
      have f4 := HK.out.1.frozen (4 + k)
      have HK8 : Hid (RRep w.heap.size (W3.setCell ⟨b, 4 + k, none⟩ (.string ⟨#[0, 0, 0, 0]⟩)) b (RSto.fresh id n (k + 1)) ∧ Fr [] w (W3.setCell ⟨b, 4 + k, none⟩ (.string ⟨#[0, 0, 0, 0]⟩))) := by
        refine ⟨HK.out.1.put (4 + k) _ ?_ (newDat_len _ (by omega)) (by simp [RSto.fresh]) rfl rfl rfl rfl, HK.out.2.setCell _ (Or.inr HK.out.1.hb)⟩
        have := cset_dat (RSto.fresh id n k) (newDat_len k (by omega)) k hlt no4
        rw [show ({ RSto.fresh id n k with dat := (RSto.fresh id n k).dat.set k no4 } : RSto) = RSto.fresh id n (k + 1) by unfold RSto.fresh; rw [← newDat_set k hlt]] at this
        exact this
      clear HK
      go_wp2
      go_roundw
      case rel => exact ⟨k + 1, by omega, by go_num, HK8⟩
      case measure => simp [intOf]; omega
    · have hkk : k = 16 := by omega
      subst hkk
      go_wp2
      go_ret2
      exact ⟨b, rfl, HK.out.1, HK.out.2⟩

set_option maxHeartbeats 800000 in
theorem rnew_bad (id n : Int) (w : World) (h : ((decide (id < 1) || decide (999 < id)) || decide (n < 1)) = true ∨ 16 < n) :
    Calls Tryz.prog 13 #[.int .i64 id, .int .i64 n] w fun e w' => e = .returned (.tuple #[.pointer none, .int .i64 1]) ∧ w' = w := by
  by_cases h1 : id < 1
  · clear h
    go_enter Tryz.func13, Tryz.ntmps13
    go_wp2
    go_ret2
    exact ⟨rfl, rfl⟩
  · by_cases h2 : 999 < id
    · clear h
      go_enter Tryz.func13, Tryz.ntmps13
      go_wp2
      go_ret2
      exact ⟨rfl, rfl⟩
    · by_cases h3 : n < 1
      · clear h
        go_enter Tryz.func13, Tryz.ntmps13
        go_wp2
        go_ret2
        exact ⟨rfl, rfl⟩
      · have h4 : 16 < n := by
          rcases h with h | h
          · simp [h1, h2, h3] at h
          · exact h
        clear h
        go_enter Tryz.func13, Tryz.ntmps13
        go_wp2
        go_ret2
        exact ⟨rfl, rfl⟩

set_option maxHeartbeats 800000 in
theorem new_bad (id n : Int) (w : World) (h : ((decide (id < 1) || decide (999 < id)) || decide (n < 1)) = true ∨ 16 < n) :
    Calls Tryz.prog 12 #[.int .i64 id, .int .i64 n] w fun e w' => e = .returned (.tuple #[.pointer none, .int .i64 1]) ∧ w' = w := by
  by_cases h1 : id < 1
  · clear h
    go_enter Tryz.func12, Tryz.ntmps12
    go_wp2
    go_ret2
    exact ⟨rfl, rfl⟩
  · by_cases h2 : 999 < id
    · clear h
      go_enter Tryz.func12, Tryz.ntmps12
      go_wp2
      go_ret2
      exact ⟨rfl, rfl⟩
    · by_cases h3 : n < 1
      · clear h
        go_enter Tryz.func12, Tryz.ntmps12
        go_wp2
        go_ret2
        exact ⟨rfl, rfl⟩
      · have h4 : 16 < n := by
          rcases h with h | h
          · simp [h1, h2, h3] at h
          · exact h
        clear h
        go_enter Tryz.func12, Tryz.ntmps12
        go_wp2
        go_ret2
        exact ⟨rfl, rfl⟩
end Go.Proofs.YthdhegmlknpllaaGreat
