/-
  The walks of strings.Cut, strings.SplitN (at one byte) and tether/grid.parseRule (11).
-/
import Derived.Test.YtikbfhhkkplpbaaDoorLib
import Derived.Test.YtikbfhhkkplpbaaDoorNum
import Derived.Deep.QuietTactic
import Derived.BigQuiet
namespace Go.Proofs.YtikbfhhkkplpbaaDoor
open Go.RowKit Pl

abbrev dl (s : ByteArray) : List UInt8 := s.data.toList

theorem ib_cases (c : UInt8) : ∀ l : List UInt8, (Lib.indexByte l c = -1 ∧ c ∉ l) ∨ ∃ p r, l = p ++ c :: r ∧ c ∉ p ∧ Lib.indexByte l c = p.length
  | [] => Or.inl ⟨rfl, by simp⟩
  | b :: l => by
    by_cases e : b = c
    · exact Or.inr ⟨[], l, by simp [e], by simp, by simp [Lib.indexByte, e]⟩
    · have hb : (b == c) = false := by simpa using e
      rcases ib_cases c l with ⟨h1, h2⟩ | ⟨p, r, h1, h2, h3⟩
      · left
        exact ⟨by simp [Lib.indexByte, hb, h1], by simp; exact ⟨fun x => e x.symm, h2⟩⟩
      · right
        refine ⟨b :: p, r, by simp [h1], by simp; exact ⟨fun x => e x.symm, h2⟩, ?_⟩
        have : ((p.length : Int) == -1) = false := by rw [beq_eq_false_iff_ne]; omega
        simp [Lib.indexByte, hb, h3, this]

theorem extract_dl (s : ByteArray) (a b : Nat) : dl (s.extract a b) = ((dl s).take b).drop a := by
  show (s.extract a b).data.toList = _
  rw [Lib.extract_data]
  simp [List.drop_take, dl]

set_option maxHeartbeats 1000000 in
theorem cutl_any (s : ByteArray) (w : World) (hs : s.size ≤ 140737488355328) :
    Calls Tryd.prog 18 #[.string s, .string ⟨#[120]⟩] w fun e w' => ∃ a b f, e = .returned (.tuple #[.string a, .string b, .bool f]) ∧ dl a = bef (dl s) ∧ dl b = aft (dl s) ∧ ∃ n, w' = w.drewN n := by
  rcases ib_cases 120 (dl s) with ⟨hi, hn⟩ | ⟨p, r, hl, hp, hi⟩
  · go_enter Tryd.func18, Tryd.ntmps18
    go_wp2_with (go_at_call 22; refine (idx_any _ _ _).mono ?_; rintro e w' ⟨rfl, rfl⟩; rw [show Lib.indexByte s.data.toList 120 = _ from hi])
    go_ret3
    have := tw_none 120 _ hn
    exact ⟨s, ByteArray.empty, false, rfl, by unfold bef; rw [this.1], by unfold aft; rw [this.2]; rfl, 0, rfl⟩
  · have hsz : p.length + 1 ≤ s.size := by have := congrArg List.length hl; simp [dl] at this; omega
    have c1 : (0 : Int) ≤ ↑p.length := by omega
    have c2 : (↑p.length : Int) ≤ ↑s.size := by omega
    have c3 : (0 : Int) ≤ ↑p.length + 1 := by omega
    have c4 : (↑p.length + 1 : Int) ≤ ↑s.size := by omega
    have HL : Hid (dl s = p ++ 120 :: r) := hl
    clear hl
    go_enter Tryd.func18, Tryd.ntmps18
    go_wp2_with (go_at_call 22; refine (idx_any _ _ _).mono ?_; rintro e w' ⟨rfl, rfl⟩; rw [show Lib.indexByte s.data.toList 120 = _ from hi])
    go_quiet (fail)
    go_wp2
    go_ret3
    have hl := HL.out
    have htw := tw_app 120 p r hp
    refine ⟨s.extract 0 p.length, s.extract (p.length + 1) s.size, true, rfl, ?_, ?_, nq, rfl⟩
    · rw [extract_dl, hl]; unfold bef; rw [htw.1]; simp
    · rw [extract_dl, List.take_of_length_le (by simp [dl]), hl]; unfold aft; rw [htw.2]; simp

set_option maxHeartbeats 400000 in
theorem cut_any (s : ByteArray) (w : World) (hs : s.size ≤ 140737488355328) :
    Calls Tryd.prog 13 #[.string s, .string ⟨#[120]⟩] w fun e w' => ∃ a b f, e = .returned (.tuple #[.string a, .string b, .bool f]) ∧ dl a = bef (dl s) ∧ dl b = aft (dl s) ∧ ∃ n, w' = w.drewN n := by
  go_enter Tryd.func13, Tryd.ntmps13
  go_wp2_with (go_at_call 18; refine (cutl_any _ _ hs).mono ?_; rintro e w' ⟨a, b, f, rfl, ha, hb, n, rfl⟩)
  go_ret3
  exact ⟨a, b, f, rfl, ha, hb, n, rfl⟩

theorem size_of_bef {a s : ByteArray} (h : dl a = bef (dl s)) : a.size ≤ s.size := by
  have h1 := congrArg List.length h
  have h2 : (bef (dl s)).length ≤ (dl s).length := (List.takeWhile_sublist _).length_le
  simp [dl] at h1 h2
  omega
theorem size_of_aft {a s : ByteArray} (h : dl a = aft (dl s)) : a.size ≤ s.size := by
  have h1 := congrArg List.length h
  have h2 : (aft (dl s)).length ≤ (dl s).length := by
    unfold aft
    have h3 : (List.dropWhile (fun c => c != 120) (dl s)).length ≤ (dl s).length := (List.dropWhile_sublist _).length_le
    rw [List.length_drop]
    omega
  simp [dl] at h1 h2
  omega

theorem bdn {B : Nat} {a w : World} (h : Below B a w) (n : Nat) : Below B a (w.drewN n) := ⟨h.os, h.tape, h.output, h.size, h.block⟩

def both : Option Int → Option Int → Option (Int × Int)
  | some c, some n => some (c, n)
  | _, _ => none
theorem pr_both (p : List UInt8) : pr p = both (pn 20 (bef p)) (pn 1000000 (aft p)) := by
  unfold pr
  cases pn 20 (bef p) <;> cases pn 1000000 (aft p) <;> rfl

set_option maxHeartbeats 1000000 in
theorem prule_any (s : ByteArray) (w : World) (hs : s.size ≤ 140737488355328) :
    Calls Tryd.prog 11 #[.string s] w fun e w' => e = .returned (.tuple #[.agg #[.int .i64 ((pr (dl s)).getD (0, 0)).1, .int .i64 ((pr (dl s)).getD (0, 0)).2], .bool (pr (dl s)).isSome]) ∧ Below w.heap.size w w' := by
  obtain ⟨x, hx⟩ : ∃ x, pn 20 (bef (dl s)) = x := ⟨_, rfl⟩
  obtain ⟨y, hy⟩ : ∃ y, pn 1000000 (aft (dl s)) = y := ⟨_, rfl⟩
  have HX : Hid (pn 20 (bef (dl s)) = x) := hx
  have HY : Hid (pn 1000000 (aft (dl s)) = y) := hy
  rw [pr_both, hx, hy]
  clear hx hy
  cases x with
  | none =>
    rw [show both none y = none by cases y <;> rfl]
    go_enter Tryd.func11, Tryd.ntmps11
    go_wp2_with fail
    refine (cut_any _ _ hs).mono ?_
    rintro e w' ⟨a, b, f, rfl, ha, hb, n, rfl⟩
    have ha' := size_of_bef ha
    have hb' := size_of_aft hb
    have hx' : pn 20 a.data.toList = none := by rw [show a.data.toList = _ from ha]; exact HX.out
    have hy' : pn 1000000 b.data.toList = y := by rw [show b.data.toList = _ from hb]; exact HY.out
    clear ha hb
    go_wp2_with fail
    refine (pnum_any _ _ _ (by omega) (by decide) (by decide)).mono ?_
    rintro e w' ⟨rfl, rfl⟩
    rw [hx']
    go_wp2_with fail
    refine (pnum_any _ _ _ (by omega) (by decide) (by decide)).mono ?_
    rintro e w' ⟨rfl, rfl⟩
    rw [hy']
    go_wp2
    exact bodyPost_ret (v := .tuple #[.agg #[.int .i64 0, .int .i64 0], .bool false]) (by simp [results, Tryd.results11, go_sem]) rfl ⟨rfl, ((bdn ((Below.refl _ _).alloc (Nat.le_refl _) _) n).setCell (by simp) _).setCell (by simp) _⟩
  | some c =>
    cases y with
    | none =>
      go_enter Tryd.func11, Tryd.ntmps11
      go_wp2_with fail
      refine (cut_any _ _ hs).mono ?_
      rintro e w' ⟨a, b, f, rfl, ha, hb, n, rfl⟩
      have ha' := size_of_bef ha
      have hb' := size_of_aft hb
      have hx' : pn 20 a.data.toList = some c := by rw [show a.data.toList = _ from ha]; exact HX.out
      have hy' : pn 1000000 b.data.toList = none := by rw [show b.data.toList = _ from hb]; exact HY.out
      clear ha hb
      go_wp2_with fail
      refine (pnum_any _ _ _ (by omega) (by decide) (by decide)).mono ?_
      rintro e w' ⟨rfl, rfl⟩
      rw [hx']
      go_wp2_with fail
      refine (pnum_any _ _ _ (by omega) (by decide) (by decide)).mono ?_
      rintro e w' ⟨rfl, rfl⟩
      rw [hy']
      go_wp2
      exact bodyPost_ret (v := .tuple #[.agg #[.int .i64 0, .int .i64 0], .bool false]) (by simp [results, Tryd.results11, go_sem]) rfl ⟨rfl, ((bdn ((Below.refl _ _).alloc (Nat.le_refl _) _) n).setCell (by simp) _).setCell (by simp) _⟩
    | some q =>
      go_enter Tryd.func11, Tryd.ntmps11
      go_wp2_with fail
      refine (cut_any _ _ hs).mono ?_
      rintro e w' ⟨a, b, f, rfl, ha, hb, n, rfl⟩
      have ha' := size_of_bef ha
      have hb' := size_of_aft hb
      have hx' : pn 20 a.data.toList = some c := by rw [show a.data.toList = _ from ha]; exact HX.out
      have hy' : pn 1000000 b.data.toList = some q := by rw [show b.data.toList = _ from hb]; exact HY.out
      clear ha hb
      go_wp2_with fail
      refine (pnum_any _ _ _ (by omega) (by decide) (by decide)).mono ?_
      rintro e w' ⟨rfl, rfl⟩
      rw [hx']
      go_wp2_with fail
      refine (pnum_any _ _ _ (by omega) (by decide) (by decide)).mono ?_
      rintro e w' ⟨rfl, rfl⟩
      rw [hy']
      go_wp2
      exact bodyPost_ret (v := .tuple #[.agg #[.int .i64 c, .int .i64 q], .bool true]) (by simp [results, Tryd.results11, go_sem]) rfl ⟨rfl, ((bdn ((Below.refl _ _).alloc (Nat.le_refl _) _) n).setCell (by simp) _).setCell (by simp) _⟩

theorem info9 : (Tryd.prog.info? 9).map (fun i => (i.zero, i.size, i.bytes)) = some (some (.string ByteArray.empty), 1, 16) := by kernel_rfl

theorem spN_hit (k : Nat) (p r : List UInt8) (hp : 32 ∉ p) : spN (k + 1) (p ++ 32 :: r) = p :: spN k r := by
  have htw := tw_app 32 p r hp
  rw [show spN (k + 1) (p ++ 32 :: r) = if 32 ∈ (p ++ 32 :: r) then (p ++ 32 :: r).takeWhile (fun c => c != 32) :: spN k (((p ++ 32 :: r).dropWhile (fun c => c != 32)).drop 1) else [p ++ 32 :: r] from rfl, if_pos (by simp), htw.1, htw.2]
  rfl
theorem spN_miss (k : Nat) (t : List UInt8) (h : 32 ∉ t) : spN k t = [t] := by
  cases k with
  | zero => rfl
  | succ k => rw [show spN (k + 1) t = if 32 ∈ t then t.takeWhile (fun c => c != 32) :: spN k ((t.dropWhile (fun c => c != 32)).drop 1) else [t] from rfl, if_neg h]
theorem spN_len : ∀ (k : Nat) (t : List UInt8), (spN k t).length ≤ k + 1
  | 0, _ => by simp [spN]
  | k + 1, t => by
    rw [show spN (k + 1) t = if 32 ∈ t then t.takeWhile (fun c => c != 32) :: spN k ((t.dropWhile (fun c => c != 32)).drop 1) else [t] from rfl]
    split
    · have := spN_len k ((t.dropWhile (fun c => c != 32)).drop 1)
      simp only [List.length_cons]; omega
    · simp

set_option maxHeartbeats 4000000 in
set_option maxRecDepth 100000 in
theorem gsplit_any (s : ByteArray) (w : World) (N : Nat) (hN : N = min 5 (s.size + 1)) (hs : s.size ≤ 140737488355328) :
    Calls Tryd.prog 12 #[.string s, .string ⟨#[32]⟩, .int .i64 0, .int .i64 5] w fun e w' => ∃ ps : List ByteArray, ps.map dl = spN (N - 1) (dl s) ∧ ps.length ≤ N ∧ (∀ p ∈ ps, p.size ≤ s.size) ∧
      e = .returned (.slice (some ⟨w.heap.size, 0, none⟩) ps.length N) ∧ w' = w.alloc (.cells (Lib.cellsOf ps N) 9) := by
  have hN1 : 1 ≤ N := by omega
  have hN5 : N ≤ 5 := by omega
  have hmin : min (5 : Int) ((s.size : Int) + 1) = (N : Int) := by omega
  have hmk := run_make_row' (P := Tryd.prog) 35 9 (.string ByteArray.empty) 16 Tryd.underlying35 info9 rfl .i64 .i64 N (by omega) (by omega)
  clear hN
  go_enter Tryd.func12, Tryd.ntmps12
  go_wp2
  clear hmk hmin
  go_loopg [0, 10] (N - 1) (fun g s0 s10 wr => ∃ (done : List ByteArray) (rest : ByteArray), s0 = .string rest ∧ s10 = .int .i64 done.length ∧ done.length ≤ N - 1 ∧ g = N - 1 - done.length ∧ rest.size ≤ s.size ∧
      wr = w.alloc (.cells (Lib.cellsOf done N) 9) ∧ Hid (done.map dl ++ spN (N - 1 - done.length) (dl rest) = spN (N - 1) (dl s)) ∧ Hid (∀ p ∈ done, p.size ≤ s.size))
  case atStart => exact ⟨[], s, rfl, rfl, Nat.zero_le _, rfl, Nat.le_refl _, by rw [Lib.cellsOf_nil], rfl, fun _ h => by cases h⟩
  case round =>
    obtain ⟨done, rest, rfl, rfl, hd, rfl, hrs, rfl, HS, HZ⟩ := hrel
    have hnext : (Lib.cellsOf done N)[done.length]? = some (.string ByteArray.empty) := Lib.cellsOf_next (by omega)
    have fin : spN (N - 1 - done.length) (dl rest) = [dl rest] → (done ++ [rest]).map dl = spN (N - 1) (dl s) ∧ (done ++ [rest]).length ≤ N ∧ (∀ p ∈ done ++ [rest], p.size ≤ s.size) ∧ (Lib.cellsOf done N).setIfInBounds done.length (.string rest) = Lib.cellsOf (done ++ [rest]) N := fun h => by
      have e := HS.out
      rw [h] at e
      refine ⟨by rw [← e]; simp, by simp; omega, ?_, Lib.cellsOf_set (by omega) rest⟩
      intro p hp
      rcases List.mem_append.1 hp with hp | hp
      · exact HZ.out p hp
      · simp at hp; subst hp; exact hrs
    have FIN : Hid _ := fin
    clear fin
    by_cases hlt : done.length < N - 1
    · have hltz : ((done.length : Nat) : Int) < (N : Int) - 1 := by omega
      rcases ib_cases 32 (dl rest) with ⟨hi, hn⟩ | ⟨p, r, hl, hp, hi⟩
      · go_wp2_with (first | (go_at_call 17; refine (index_any rest 32 _).mono ?_; rintro e w' ⟨rfl, hw⟩; rw [hw, show Lib.indexByte rest.data.toList 32 = _ from hi]))
        go_ret
        obtain ⟨f1, f2, f3, f4⟩ := FIN.out (spN_miss _ _ hn)
        exact ⟨done ++ [rest], f1, f2, f3, by first | (simp; done) | (congr 2 <;> simp), by rw [← f4]⟩
      · have hsz : p.length + 1 ≤ rest.size := by have := congrArg List.length hl; simp [dl] at this; omega
        have c0 : ¬ ((p.length : Int) < 0) := by omega
        have c1 : (0 : Int) ≤ ↑p.length := by omega
        have c2 : (↑p.length : Int) ≤ ↑rest.size := by omega
        have c3 : (0 : Int) ≤ ↑p.length + 1 := by omega
        have c4 : (↑p.length + 1 : Int) ≤ ↑rest.size := by omega
        have HL : Hid (dl rest = p ++ 32 :: r) := hl
        clear hl
        go_wp2_with (first | (go_at_call 17; refine (index_any rest 32 _).mono ?_; rintro e w' ⟨rfl, hw⟩; rw [hw, show Lib.indexByte rest.data.toList 32 = _ from hi]))
        go_roundg (N - 1 - (done.length + 1))
        case measure => omega
        case rel =>
          have hl := HL.out
          refine ⟨done ++ [rest.extract 0 p.length], rest.extract (p.length + 1) rest.size, rfl, by simp, by simp; omega, by simp, by rw [ByteArray.size_extract]; omega, by rw [← Lib.cellsOf_set (by omega)], ?_, ?_⟩
          · show _ = _
            rw [← HS.out, show N - 1 - done.length = (N - 1 - (done.length + 1)) + 1 by omega, hl, spN_hit _ p r hp]
            have e1 : dl (rest.extract 0 p.length) = p := by rw [extract_dl, hl]; simp
            have e2 : dl (rest.extract (p.length + 1) rest.size) = r := by rw [extract_dl, List.take_of_length_le (by simp [dl]), hl]; simp
            simp [e1, e2]
          · intro q hq
            rcases List.mem_append.1 hq with hq | hq
            · exact HZ.out q hq
            · simp at hq; subst hq; rw [ByteArray.size_extract]; omega
    · have hltz : ¬ (((done.length : Nat) : Int) < (N : Int) - 1) := by omega
      go_wp2
      go_ret
      obtain ⟨f1, f2, f3, f4⟩ := FIN.out (by rw [show N - 1 - done.length = 0 by omega]; rfl)
      exact ⟨done ++ [rest], f1, f2, f3, by first | (simp; done) | (congr 2 <;> simp), by rw [← f4]⟩

set_option maxHeartbeats 400000 in
theorem splitn_any (s : ByteArray) (w : World) (N : Nat) (hN : N = min 5 (s.size + 1)) (hs : s.size ≤ 140737488355328) :
    Calls Tryd.prog 10 #[.string s, .string ⟨#[32]⟩, .int .i64 5] w fun e w' => ∃ ps : List ByteArray, ps.map dl = spN (N - 1) (dl s) ∧ ps.length ≤ N ∧ (∀ p ∈ ps, p.size ≤ s.size) ∧
      e = .returned (.slice (some ⟨w.heap.size, 0, none⟩) ps.length N) ∧ w' = w.alloc (.cells (Lib.cellsOf ps N) 9) := by
  have HN := gsplit_any s w N hN hs
  clear hN
  go_enter Tryd.func10, Tryd.ntmps10
  go_wp2_with (go_at_call 12; refine HN.mono ?_; rintro e w' ⟨ps, h1, h2, h3, rfl, hw⟩; rw [hw])
  go_ret
  exact ⟨ps, h1, h2, h3, rfl, rfl⟩
end Go.Proofs.YtikbfhhkkplpbaaDoor
