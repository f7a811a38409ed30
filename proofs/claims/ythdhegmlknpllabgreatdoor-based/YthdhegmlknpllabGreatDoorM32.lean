import Derived.Test.YthdhegmlknpllabGreatDoorM27
import Derived.Test.YthdhegmlknpllabGreatDoorM15
import Derived.Test.YthdhegmlknpllabGreatDoorM31
/-
  The walk of Receive (32), where the text is no stream.
-/
namespace Go.Proofs.YthdhegmlknpllabGreatDoor
open Go.RowKit Go.Maps Go.MuLone

set_option maxRecDepth 100000 in
set_option maxHeartbeats 1600000 in
theorem receive_form (B b : Nat) (s : Sto) (t : ByteArray) (w : World) (h : Rep B w b 0 s) (hp : ∀ W, Calls Tryz.prog 59 #[.string t] W fun e w' => e = .returned (.tuple #[zeroS, .bool false]) ∧ Fr [] W w') :
    Calls Tryz.prog 57 #[.pointer (some ⟨b, 0, none⟩), .string t] w fun e w' => e = .returned (.tuple #[.int .i64 0, .int .i64 2]) ∧ Rep B w' b 0 s ∧ Fr (foot b s) w w' := by
  have R1 := h.lock 1
  obtain ⟨w1, hw1⟩ : ∃ w1, w.setCell ⟨b, 0, none⟩ (.int .i32 1) = w1 := ⟨_, rfl⟩
  rw [hw1] at R1
  have HL := lock_free Tryz.muLib ⟨b, 0, none⟩ w h.cells.1 (h.frozen 0)
  have F1 : Fr (foot b s) w w1 := by rw [← hw1]; exact fr_lock b s w _
  have HF : Hid (w.setCell ⟨b, 0, none⟩ (.int .i32 1) = w1 ∧ Rep B w1 b 1 s ∧ Fr (foot b s) w w1) := ⟨hw1, R1, F1⟩
  have HP : Hid (∀ W, Calls Tryz.prog 59 #[.string t] W fun e w' => e = .returned (.tuple #[.agg #[.int .i64 0, .int .i64 0, .int .i64 0, .int .i64 0, .slice none 0 0], .bool false]) ∧ Fr [] W w') := hp
  clear h R1 F1 hw1 hp
  go_enter_defers Tryz.func57, Tryz.ntmps57
  go_wp2_with (first
    | (go_at_call 30; refine HL.mono ?_; rintro e w' ⟨rfl, hw'⟩; rw [HF.out.1] at hw'; have hw' := hw'.symm; subst hw')
    | (go_at_call 59; refine (HP.out _).mono ?_; rintro e w2 ⟨rfl, hfr⟩; have HR2 : Hid (Rep B (w2.alloc (.cells #[.int .i64 0, .int .i64 0, .int .i64 0, .int .i64 0, .slice none 0 0] 133)) b 1 s ∧ Fr (foot b s) w (w2.alloc (.cells #[.int .i64 0, .int .i64 0, .int .i64 0, .int .i64 0, .slice none 0 0] 133))) := ⟨(HF.out.2.1.kept0 hfr).kept0 ((Fr.refl _ _).alloc _), (HF.out.2.2.trans hfr (by simp)).alloc _⟩; clear hfr))
  refine leaves_cons (f := 31) (args := #[.pointer (some ⟨b, 0, none⟩)]) (by simp) (by simp [go_sem]) ?_
  refine (unlock_deferred Tryz.muLib ⟨b, 0, none⟩ .returning _ HR2.out.1.cells.1 (HR2.out.1.frozen 0)).mono ?_
  rintro e u' w'' ⟨rfl, rfl, rfl⟩
  exact ⟨_, results_tmp2 rfl _ _ _, rfl, HR2.out.1.lock 0, HR2.out.2.setCell _ (Or.inl (by simp [foot]))⟩
end Go.Proofs.YthdhegmlknpllabGreatDoor

/-
  ParseStream (50) of a stream, of a first part of one, of one with a byte turned.
-/
namespace Go.Proofs.YthdhegmlknpllabGreatDoor
open Go.RowKit Go.Maps Go.MuLone

theorem streamT_eq (f t m nb : Int) (l : List (Int × B4)) : streamT f t m nb l = ofL (bodyT f t m nb l ++ (chk (bodyT f t m nb l)).list') := by
  unfold streamT
  rw [ba_ofL, ← ofL_append]
  rfl
theorem body_len (f t m nb : Int) (l : List (Int × B4)) : (bodyT f t m nb l).length = 18 + 5 * l.length := by
  rw [body_split]
  simp only [List.length_append, blT_len, B4.list', List.length_cons, List.length_nil]
  omega
theorem streamT_size (f t m nb : Int) (l : List (Int × B4)) : (streamT f t m nb l).size = 22 + 5 * l.length := by
  rw [streamT_eq, ofL_size, List.length_append, body_len]
  show 18 + 5 * l.length + 4 = _
  omega

/-- The numbers of a stream that may be. -/
structure MayB (f t m nb : Int) (l : List (Int × B4)) : Prop where
  cf : f = 0 ∨ (1 ≤ f ∧ f ≤ 999999999)
  ct : 1 ≤ t ∧ t ≤ 999999999
  ne : f ≠ t
  cm : 0 ≤ m ∧ m ≤ 1073741824
  cnb : 1 ≤ nb ∧ nb ≤ 16
  len : l.length ≤ 16
  all : f = 0 → (l.length : Int) = nb
  up : Rises nb l
theorem MayB.small {f t m nb : Int} {l : List (Int × B4)} (h : MayB f t m nb l) : Small l := by
  intro x hx
  obtain ⟨k, hk, rfl⟩ := List.getElem_of_mem hx
  have h1 := h.up k hk
  have h2 := least_nonneg h.up k (by omega)
  have h3 := h.cnb
  omega

theorem parse_stream (f t m nb : Int) (l : List (Int × B4)) (h : MayB f t m nb l) (w : World) :
    Calls Tryz.prog 59 #[.string (streamT f t m nb l)] w fun e w' => ∃ v, e = .returned (.tuple #[.agg #[.int .i64 f, .int .i64 t, .int .i64 m, .int .i64 nb, v], .bool true]) ∧ w'.ownsRow w.heap.size 166 5 v l.length (blC l) ∧ Fr [] w w' := by
  have hlen := h.len
  have hnb := h.cnb
  have hm := h.cm
  have ht := h.ct
  have hsz := streamT_size f t m nb l
  obtain ⟨p1, p2, p3⟩ := parts (bodyT f t m nb l) (chk (bodyT f t m nb l)).list' rfl
  have hck := check_yes (bodyT f t m nb l)
  obtain ⟨b0, b1, b2, b3, b4, b5, b6, b7⟩ := q_body f t m nb l (by have := h.cf; omega) (by omega) (by omega) (by omega) (by omega) h.small
  rw [← streamT_eq] at p1 p2 p3 hck
  have HP := parse_any (streamT f t m nb l) w (by omega) (by omega) hck true (fun e => by cases e)
  rw [p3, b0, b1, b2, b3, b4, b6, b7] at HP
  refine (HP (fun _ => ⟨rfl, rfl, rfl⟩) (fun _ W v hv => mayBe_ok f t m nb l v w.heap.size W hv h.len h.cf h.ct h.ne h.cm h.cnb h.all h.up)).mono ?_
  rintro e w' ⟨_, h2, h3⟩
  obtain ⟨v, h4, h5⟩ := h2 rfl
  exact ⟨v, h4, h5, h3⟩

theorem parse_cut (f t m nb : Int) (l : List (Int × B4)) (hl : l.length ≤ 16) (k : Nat) (hk : k < (streamT f t m nb l).size) (w : World) :
    Calls Tryz.prog 59 #[.string ((streamT f t m nb l).extract 0 k)] w fun e w' => e = .returned (.tuple #[zeroS, .bool false]) ∧ Fr [] w w' := by
  have hsz := streamT_size f t m nb l
  have hx : (streamT f t m nb l).extract 0 k = ofL ((bodyT f t m nb l ++ (chk (bodyT f t m nb l)).list').take k) := by
    refine ofL_ext ?_
    rw [streamT_eq, ext_list, ofL_list, ofL_list, List.drop_zero, Nat.sub_zero]
  have hk' : k < (bodyT f t m nb l ++ (chk (bodyT f t m nb l)).list').length := by
    rw [streamT_eq, ofL_size] at hk
    exact hk
  have hxs : ((streamT f t m nb l).extract 0 k).size ≤ 1000000 := by rw [ByteArray.size_extract]; omega
  cases hb : (((streamT f t m nb l).extract 0 k).extract (ckAt ((streamT f t m nb l).extract 0 k)) ((streamT f t m nb l).extract 0 k).size).toList == (chk (((streamT f t m nb l).extract 0 k).extract 0 (ckAt ((streamT f t m nb l).extract 0 k))).data.toList).ba.toList with
  | false => exact parse_bad _ w hxs hb
  | true =>
    rcases check_cut f t m nb l (by omega) k hk' _ hx with h1 | ⟨h5, h6⟩
    · rw [hb] at h1
      cases h1
    · refine (parse_any _ w hxs h5 hb false (fun _ => h6) (fun e => by cases e) (fun e => by cases e)).mono ?_
      rintro e w' ⟨h2, _, h3⟩
      exact ⟨h2 rfl, h3⟩

theorem parse_turned (f t m nb : Int) (l : List (Int × B4)) (hl : l.length ≤ 16) (k : Nat) (y : UInt8) (hk : k < (streamT f t m nb l).data.toList.length) (hy : y ≠ (streamT f t m nb l).data.toList[k]) (w : World) :
    Calls Tryz.prog 59 #[.string (ofL ((streamT f t m nb l).data.toList.set k y))] w fun e w' => e = .returned (.tuple #[zeroS, .bool false]) ∧ Fr [] w w' := by
  have hsz := streamT_size f t m nb l
  have e : (streamT f t m nb l).data.toList = bodyT f t m nb l ++ (chk (bodyT f t m nb l)).list' := by rw [streamT_eq, ofL_list]
  have hlen : (streamT f t m nb l).data.toList.length = 22 + 5 * l.length := by rw [Array.length_toList]; exact hsz
  refine parse_bad _ w (by rw [ofL_size, List.length_set]; omega) (check_turned (bodyT f t m nb l) k y (by rw [← e]; exact hk) ?_ _ (by rw [e]))
  intro e2
  apply hy
  rw [e2]
  simp only [e]
end Go.Proofs.YthdhegmlknpllabGreatDoor
