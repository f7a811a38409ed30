/-
  The walks of findSnapshot (28), findMark (45), slices.IndexFunc (57, 59) and their closures (58, 60).
-/
import Derived.Test.YthdhegmlknpllaaGreatBlk
namespace Go.Proofs.YthdhegmlknpllaaGreat
open Go.RowKit Go.Maps Go.MuLone

/-- Where the first one stands; -1: none does. -/
def fi {α : Type} (p : α → Bool) : Nat → List α → Int
  | _, [] => -1
  | i, x :: r => if p x then (i : Int) else fi p (i + 1) r

theorem fi_none {α : Type} {p : α → Bool} : ∀ (l : List α) (i : Nat), (∀ x ∈ l, p x = false) → fi p i l = -1
  | [], _, _ => rfl
  | x :: r, i, h => by
    have hx : p x = false := h x (by simp)
    rw [fi, hx]
    exact fi_none r (i + 1) (fun y hy => h y (by simp [hy]))
theorem fi_some {α : Type} {p : α → Bool} : ∀ (l : List α) (i : Nat), (∃ x ∈ l, p x = true) → ∃ j, ∃ h : j < l.length, fi p i l = ((i + j : Nat) : Int) ∧ p l[j] = true
  | [], _, h => by simp at h
  | x :: r, i, h => by
    cases hx : p x
    · obtain ⟨j, hj, e, hp⟩ := fi_some r (i + 1) (by obtain ⟨y, hy, hp⟩ := h; rcases List.mem_cons.1 hy with rfl | hy; rw [hx] at hp; cases hp; exact ⟨y, hy, hp⟩)
      refine ⟨j + 1, by simpa using hj, ?_, by simpa using hp⟩
      rw [fi, hx]
      simp only [Bool.false_eq_true, if_false]
      rw [e]; congr 1; omega
    · exact ⟨0, by simp, by rw [fi, hx]; simp, by simpa using hx⟩

set_option maxHeartbeats 400000 in
theorem clo58 (x : Sn) (g : Int) (gb : Nat) (w : World) (hg : w.cell? ⟨gb, 0, none⟩ = some (.int .i64 g)) :
    Calls Tryz.prog 100 #[.agg #[.int .i64 x.guid, .int .i64 x.time, .int .i64 x.holds, .int .i64 x.came], .pointer (some ⟨gb, 0, none⟩)] w fun e w' => e = .returned (.bool (x.guid == g)) ∧ Fr [] w w' := by
  have lb := World.block_lt_of_cell? _ _ hg
  go_enter Tryz.func100, Tryz.ntmps100
  go_wp2
  go_ret
  exact ⟨rfl, (Fr.refl _ _).alloc _⟩

set_option maxHeartbeats 400000 in
theorem clo60 (x : Int × Int) (g : Int) (gb : Nat) (w : World) (hg : w.cell? ⟨gb, 0, none⟩ = some (.int .i64 g)) :
    Calls Tryz.prog 104 #[.agg #[.int .i64 x.1, .int .i64 x.2], .pointer (some ⟨gb, 0, none⟩)] w fun e w' => e = .returned (.bool (x.1 == g)) ∧ Fr [] w w' := by
  have lb := World.block_lt_of_cell? _ _ hg
  go_enter Tryz.func104, Tryz.ntmps104
  go_wp2
  go_ret
  exact ⟨rfl, (Fr.refl _ _).alloc _⟩

theorem ret_int {a b : Int} (h : a = b) : Ending.returned (.int .i64 a) = .returned (.int .i64 b) := by rw [h]
theorem own_addr {w : World} {base : Nat} {e : TypeId} {size : Nat} {a : Option Addr} {c : Nat} {n : Nat} {xs : List Value} (h : w.ownsRow base e size (.slice a n c) n xs) (h0 : 0 < n) : ∃ g, a = some ⟨g, 0, none⟩ ∧ n ≤ c ∧ ∀ j, j < n * size → w.cell? ⟨g, j, none⟩ = xs[j]? := by
  rcases h.2 with ⟨h1, h2⟩ | ⟨g, c, cur, h1, hb, hg, hc, hm, hs, ht⟩
  · omega
  · simp at h1
    obtain ⟨rfl, rfl⟩ := h1
    refine ⟨g, rfl, hc, fun j hj => ?_⟩
    rw [cell_of hg, ← ht, List.getElem?_take_of_lt hj, ← Array.getElem?_toList]

set_option maxHeartbeats 1000000 in
theorem index57 (B : Nat) (sv : Value) (l : List Sn) (g : Int) (gb : Nat) (w : World) (ho : w.ownsRow B 119 4 sv l.length (snC l)) (hg : w.cell? ⟨gb, 0, none⟩ = some (.int .i64 g)) (hl : l.length ≤ 1000000) :
    Calls Tryz.prog 99 #[sv, .func (.func 100) #[] #[.pointer (some ⟨gb, 0, none⟩)]] w fun e w' => e = .returned (.int .i64 (fi (fun x : Sn => x.guid == g) 0 l)) ∧ Fr [] w w' := by
  obtain ⟨ao, cap, rfl⟩ := own_shape ho
  obtain ⟨r, hr⟩ : ∃ r, fi (fun x : Sn => x.guid == g) 0 l = r := ⟨_, rfl⟩
  rw [hr]
  have HR : Hid (fi (fun x : Sn => x.guid == g) 0 (l.drop 0) = r) := hr
  have HO : Hid (w.ownsRow B 119 4 (.slice ao l.length cap) l.length (snC l) ∧ w.cell? ⟨gb, 0, none⟩ = some (.int .i64 g)) := ⟨ho, hg⟩
  clear hr ho hg
  go_enter Tryz.func99, Tryz.ntmps99
  go_wp2
  go_loopw [8] (fun i wr => ∃ k : Nat, k ≤ l.length ∧ i = .int .i64 k ∧ Hid (fi (fun x : Sn => x.guid == g) k (l.drop k) = r) ∧ Hid (Fr [] w wr)) (fun i _ => l.length - (intOf i).toNat)
  case atStart => exact ⟨0, Nat.zero_le _, rfl, HR, Fr.refl _ _⟩
  case round =>
    obtain ⟨k, hk, rfl, HK, HW⟩ := hrel
    obtain ⟨W3, hW3⟩ : ∃ W3, W3 = wr := ⟨_, rfl⟩
    subst hW3
    clear HR
    by_cases hlt : k < l.length
    · have H := HK.out
      rw [List.drop_eq_getElem_cons hlt, fi] at H
      have ho' := own_of_block (w' := W3) HO.out.1 (fun j hj => HW.out.block j (HO.out.1.lt j hj).2 (by simp))
      obtain ⟨gg, rfl, hcap, hc⟩ := own_addr ho' (by omega)
      have hs := snC_get l k hlt
      obtain ⟨x, hx⟩ : ∃ x, l[k] = x := ⟨_, rfl⟩
      rw [hx] at hs H
      have d0 : W3.cell? ⟨gg, k * 4, none⟩ = some (.int .i64 x.guid) := by rw [hc _ (by omega)]; exact hs.1
      have d1 : W3.cell? ⟨gg, k * 4 + 1, none⟩ = some (.int .i64 x.time) := by rw [hc _ (by omega)]; exact hs.2.1
      have d2 : W3.cell? ⟨gg, k * 4 + 2, none⟩ = some (.int .i64 x.holds) := by rw [hc _ (by omega)]; exact hs.2.2.1
      have d3 : W3.cell? ⟨gg, k * 4 + 3, none⟩ = some (.int .i64 x.came) := by rw [hc _ (by omega)]; exact hs.2.2.2
      have hg' : W3.cell? ⟨gb, 0, none⟩ = some (.int .i64 g) := HW.out.gb.cell HO.out.2 (by simp)
      have HC := clo58 x g gb W3 hg'
      have hltz : (k : Int) < (l.length : Int) := by omega
      clear HK hc hs ho' hx hg'
      cases hp : (x.guid == g)
      · rw [hp] at HC
        have HH : Hid (fi (fun x : Sn => x.guid == g) (k + 1) (l.drop (k + 1)) = r) := by show _ = _; simpa [hp] using H
        clear H
        go_wp2_with (go_at_call 100; refine HC.mono ?_; rintro e w' ⟨rfl, hfr⟩; have HW' : Hid (Fr [] w w') := HW.out.trans hfr (by simp); clear HW hfr)
        go_roundw
        case rel => exact ⟨k + 1, by omega, by go_num, HH, HW'⟩
        case measure => simp [intOf]; omega
      · rw [hp] at HC
        have HH : Hid ((k : Int) = r) := by show _ = _; simpa [hp] using H
        clear H
        go_wp2_with (go_at_call 100; refine HC.mono ?_; rintro e w' ⟨rfl, hfr⟩; have HW' : Hid (Fr [] w w') := HW.out.trans hfr (by simp); clear HW hfr)
        go_ret
        exact ⟨ret_int HH.out, HW'.out⟩
    · have hkk : k = l.length := by omega
      have HH : Hid ((-1 : Int) = r) := by have := HK.out; rw [hkk] at this; show _ = _; simpa [fi] using this
      clear HK
      subst hkk
      go_wp2
      go_ret
      exact ⟨ret_int HH.out, HW.out⟩

set_option maxHeartbeats 1000000 in
theorem index59 (B : Nat) (sv : Value) (l : List (Int × Int)) (g : Int) (gb : Nat) (w : World) (ho : w.ownsRow B 125 2 sv l.length (mkC l)) (hg : w.cell? ⟨gb, 0, none⟩ = some (.int .i64 g)) (hl : l.length ≤ 1000000) :
    Calls Tryz.prog 103 #[sv, .func (.func 104) #[] #[.pointer (some ⟨gb, 0, none⟩)]] w fun e w' => e = .returned (.int .i64 (fi (fun x : Int × Int => x.1 == g) 0 l)) ∧ Fr [] w w' := by
  obtain ⟨ao, cap, rfl⟩ := own_shape ho
  obtain ⟨r, hr⟩ : ∃ r, fi (fun x : Int × Int => x.1 == g) 0 l = r := ⟨_, rfl⟩
  rw [hr]
  have HR : Hid (fi (fun x : Int × Int => x.1 == g) 0 (l.drop 0) = r) := hr
  have HO : Hid (w.ownsRow B 125 2 (.slice ao l.length cap) l.length (mkC l) ∧ w.cell? ⟨gb, 0, none⟩ = some (.int .i64 g)) := ⟨ho, hg⟩
  clear hr ho hg
  go_enter Tryz.func103, Tryz.ntmps103
  go_wp2
  go_loopw [8] (fun i wr => ∃ k : Nat, k ≤ l.length ∧ i = .int .i64 k ∧ Hid (fi (fun x : Int × Int => x.1 == g) k (l.drop k) = r) ∧ Hid (Fr [] w wr)) (fun i _ => l.length - (intOf i).toNat)
  case atStart => exact ⟨0, Nat.zero_le _, rfl, HR, Fr.refl _ _⟩
  case round =>
    obtain ⟨k, hk, rfl, HK, HW⟩ := hrel
    obtain ⟨W3, hW3⟩ : ∃ W3, W3 = wr := ⟨_, rfl⟩
    subst hW3
    clear HR
    by_cases hlt : k < l.length
    · have H := HK.out
      rw [List.drop_eq_getElem_cons hlt, fi] at H
      have ho' := own_of_block (w' := W3) HO.out.1 (fun j hj => HW.out.block j (HO.out.1.lt j hj).2 (by simp))
      obtain ⟨gg, rfl, hcap, hc⟩ := own_addr ho' (by omega)
      have hs := mkC_get l k hlt
      obtain ⟨x, hx⟩ : ∃ x, l[k] = x := ⟨_, rfl⟩
      rw [hx] at hs H
      have d0 : W3.cell? ⟨gg, k * 2, none⟩ = some (.int .i64 x.1) := by rw [hc _ (by omega)]; exact hs.1
      have d1 : W3.cell? ⟨gg, k * 2 + 1, none⟩ = some (.int .i64 x.2) := by rw [hc _ (by omega)]; exact hs.2
      have hg' : W3.cell? ⟨gb, 0, none⟩ = some (.int .i64 g) := HW.out.gb.cell HO.out.2 (by simp)
      have HC := clo60 x g gb W3 hg'
      have hltz : (k : Int) < (l.length : Int) := by omega
      clear HK hc hs ho' hx hg'
      cases hp : (x.1 == g)
      · rw [hp] at HC
        have HH : Hid (fi (fun x : Int × Int => x.1 == g) (k + 1) (l.drop (k + 1)) = r) := by show _ = _; simpa [hp] using H
        clear H
        go_wp2_with (go_at_call 104; refine HC.mono ?_; rintro e w' ⟨rfl, hfr⟩; have HW' : Hid (Fr [] w w') := HW.out.trans hfr (by simp); clear HW hfr)
        go_roundw
        case rel => exact ⟨k + 1, by omega, by go_num, HH, HW'⟩
        case measure => simp [intOf]; omega
      · rw [hp] at HC
        have HH : Hid ((k : Int) = r) := by show _ = _; simpa [hp] using H
        clear H
        go_wp2_with (go_at_call 104; refine HC.mono ?_; rintro e w' ⟨rfl, hfr⟩; have HW' : Hid (Fr [] w w') := HW.out.trans hfr (by simp); clear HW hfr)
        go_ret
        exact ⟨ret_int HH.out, HW'.out⟩
    · have hkk : k = l.length := by omega
      have HH : Hid ((-1 : Int) = r) := by have := HK.out; rw [hkk] at this; show _ = _; simpa [fi] using this
      clear HK
      subst hkk
      go_wp2
      go_ret
      exact ⟨ret_int HH.out, HW.out⟩

set_option maxHeartbeats 400000 in
theorem findSnapshot_any (B b : Nat) (q : Int) (s : Sto) (g : Int) (w : World) (h : Rep B w b q s) (hl : s.ss.length ≤ 1000000) :
    Calls Tryz.prog 65 #[.pointer (some ⟨b, 0, none⟩), .int .i64 g] w fun e w' => e = .returned (.int .i64 (fi (fun x : Sn => x.guid == g) 0 s.ss)) ∧ Fr [] w w' := by
  obtain ⟨c0, c2, c3, c4, c5, c6, c7, c8, c9⟩ := h.cells
  have lb := World.block_lt_of_cell? _ _ c4
  have HC := index57 B s.sv s.ss g w.heap.size (w.alloc (.cells #[.int .i64 g] 3)) (h.ss.alloc _) (by simp) hl
  obtain ⟨ao, cap, hsv⟩ := own_shape h.ss
  have HH : Hid (Rep B w b q s) := h
  rw [hsv] at c4 HC
  clear c6 h hsv
  go_enter Tryz.func65, Tryz.ntmps65
  go_wp2_with (go_at_call 99; refine HC.mono ?_; rintro e w' ⟨rfl, hfr⟩)
  go_ret
  exact ⟨rfl, ((Fr.refl _ _).alloc _).trans hfr (by simp)⟩

set_option maxHeartbeats 400000 in
theorem findMark_any (B b : Nat) (q : Int) (s : Sto) (g : Int) (w : World) (h : Rep B w b q s) (hl : s.ms.length ≤ 1000000) :
    Calls Tryz.prog 69 #[.pointer (some ⟨b, 0, none⟩), .int .i64 g] w fun e w' => e = .returned (.int .i64 (fi (fun x : Int × Int => x.1 == g) 0 s.ms)) ∧ Fr [] w w' := by
  obtain ⟨c0, c2, c3, c4, c5, c6, c7, c8, c9⟩ := h.cells
  have lb := World.block_lt_of_cell? _ _ c6
  have HC := index59 B s.mv s.ms g w.heap.size (w.alloc (.cells #[.int .i64 g] 3)) (h.ms.alloc _) (by simp) hl
  obtain ⟨ao, cap, hsv⟩ := own_shape h.ms
  have HH : Hid (Rep B w b q s) := h
  rw [hsv] at c6 HC
  clear c4 h hsv
  go_enter Tryz.func69, Tryz.ntmps69
  go_wp2_with (go_at_call 103; refine HC.mono ?_; rintro e w' ⟨rfl, hfr⟩)
  go_ret
  exact ⟨rfl, ((Fr.refl _ _).alloc _).trans hfr (by simp)⟩
end Go.Proofs.YthdhegmlknpllaaGreat
