/-
  ParseStream (63) of a stream, of a first part of one, of one with a byte turned.
-/
import Derived.Test.YthdhegmlknpllaaRcd
import Derived.Test.YthdhegmlknpllaaRcv
namespace Go.Proofs.Ythdhegmlknpllaa
open Go.RowKit Go.Maps Go.MuLone

theorem streamT_eq (f t m nb : Int) (l : List (Int × B4)) : streamT f t m nb l = ofL (bodyT f t m nb l ++ (chk (bodyT f t m nb l)).list') := by
  unfold streamT
  rw [ba_ofL, ← ofL_append]
  rfl
theorem body_len (f t m nb : Int) (l : List (Int × B4)) : (bodyT f t m nb l).length = 18 + 5 * l.length := by
  rw [body_split]
  simp only [List.length_append, blT_len, B4.list', List.length_cons, List.length_nil]
  omega
theorem streamT_size (f t m nb : Int) (l : List (Int × B4)) : (streamT f t m nb l).size = 22 + 5 * l.length := by
  rw [streamT_eq, ofL_size, List.length_append, body_len]
  show 18 + 5 * l.length + 4 = _
  omega

/-- The numbers of a stream that may be. -/
structure MayB (f t m nb : Int) (l : List (Int × B4)) : Prop where
  cf : f = 0 ∨ (1 ≤ f ∧ f ≤ 999999999)
  ct : 1 ≤ t ∧ t ≤ 999999999
  ne : f ≠ t
  cm : 0 ≤ m ∧ m ≤ 1073741824
  cnb : 1 ≤ nb ∧ nb ≤ 16
  len : l.length ≤ 16
  all : f = 0 → (l.length : Int) = nb
  up : Rises nb l
theorem MayB.small {f t m nb : Int} {l : List (Int × B4)} (h : MayB f t m nb l) : Small l := by
  intro x hx
  obtain ⟨k, hk, rfl⟩ := List.getElem_of_mem hx
  have h1 := h.up k hk
  have h2 := least_nonneg h.up k (by omega)
  have h3 := h.cnb
  omega

theorem parse_stream (f t m nb : Int) (l : List (Int × B4)) (h : MayB f t m nb l) (w : World) :
    Calls Try.prog 63 #[.string (streamT f t m nb l)] w fun e w' => ∃ v, e = .returned (.tuple #[.agg #[.int .i64 f, .int .i64 t, .int .i64 m, .int .i64 nb, v], .bool true]) ∧ w'.ownsRow w.heap.size 120 5 v l.length (blC l) ∧ Fr [] w w' := by
  have hlen := h.len
  have hnb := h.cnb
  have hm := h.cm
  have ht := h.ct
  have hsz := streamT_size f t m nb l
  obtain ⟨p1, p2, p3⟩ := parts (bodyT f t m nb l) (chk (bodyT f t m nb l)).list' rfl
  have hck := check_yes (bodyT f t m nb l)
  obtain ⟨b0, b1, b2, b3, b4, b5, b6, b7⟩ := q_body f t m nb l (by have := h.cf; omega) (by omega) (by omega) (by omega) (by omega) h.small
  rw [← streamT_eq] at p1 p2 p3 hck
  have HP := parse_any (streamT f t m nb l) w (by omega) (by omega) hck true (fun e => by cases e)
  rw [p3, b0, b1, b2, b3, b4, b6, b7] at HP
  refine (HP (fun _ => ⟨rfl, rfl, rfl⟩) (fun _ W v hv => mayBe_ok f t m nb l v w.heap.size W hv h.len h.cf h.ct h.ne h.cm h.cnb h.all h.up)).mono ?_
  rintro e w' ⟨_, h2, h3⟩
  obtain ⟨v, h4, h5⟩ := h2 rfl
  exact ⟨v, h4, h5, h3⟩

theorem parse_cut (f t m nb : Int) (l : List (Int × B4)) (hl : l.length ≤ 16) (k : Nat) (hk : k < (streamT f t m nb l).size) (w : World) :
    Calls Try.prog 63 #[.string ((streamT f t m nb l).extract 0 k)] w fun e w' => e = .returned (.tuple #[zeroS, .bool false]) ∧ Fr [] w w' := by
  have hsz := streamT_size f t m nb l
  have hx : (streamT f t m nb l).extract 0 k = ofL ((bodyT f t m nb l ++ (chk (bodyT f t m nb l)).list').take k) := by
    refine ofL_ext ?_
    rw [streamT_eq, ext_list, ofL_list, ofL_list, List.drop_zero, Nat.sub_zero]
  have hk' : k < (bodyT f t m nb l ++ (chk (bodyT f t m nb l)).list').length := by
    rw [streamT_eq, ofL_size] at hk
    exact hk
  have hxs : ((streamT f t m nb l).extract 0 k).size ≤ 1000000 := by rw [ByteArray.size_extract]; omega
  cases hb : (((streamT f t m nb l).extract 0 k).extract (ckAt ((streamT f t m nb l).extract 0 k)) ((streamT f t m nb l).extract 0 k).size).toList == (chk (((streamT f t m nb l).extract 0 k).extract 0 (ckAt ((streamT f t m nb l).extract 0 k))).data.toList).ba.toList with
  | false => exact parse_bad _ w hxs hb
  | true =>
    rcases check_cut f t m nb l (by omega) k hk' _ hx with h1 | ⟨h5, h6⟩
    · rw [hb] at h1
      cases h1
    · refine (parse_any _ w hxs h5 hb false (fun _ => h6) (fun e => by cases e) (fun e => by cases e)).mono ?_
      rintro e w' ⟨h2, _, h3⟩
      exact ⟨h2 rfl, h3⟩

theorem parse_turned (f t m nb : Int) (l : List (Int × B4)) (hl : l.length ≤ 16) (k : Nat) (y : UInt8) (hk : k < (streamT f t m nb l).data.toList.length) (hy : y ≠ (streamT f t m nb l).data.toList[k]) (w : World) :
    Calls Try.prog 63 #[.string (ofL ((streamT f t m nb l).data.toList.set k y))] w fun e w' => e = .returned (.tuple #[zeroS, .bool false]) ∧ Fr [] w w' := by
  have hsz := streamT_size f t m nb l
  have e : (streamT f t m nb l).data.toList = bodyT f t m nb l ++ (chk (bodyT f t m nb l)).list' := by rw [streamT_eq, ofL_list]
  have hlen : (streamT f t m nb l).data.toList.length = 22 + 5 * l.length := by rw [Array.length_toList]; exact hsz
  refine parse_bad _ w (by rw [ofL_size, List.length_set]; omega) (check_turned (bodyT f t m nb l) k y (by rw [← e]; exact hk) ?_ _ (by rw [e]))
  intro e2
  apply hy
  rw [e2]
  simp only [e]
end Go.Proofs.Ythdhegmlknpllaa
