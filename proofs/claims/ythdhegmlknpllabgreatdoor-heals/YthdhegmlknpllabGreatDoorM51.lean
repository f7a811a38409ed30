import Derived.Test.YthdhegmlknpllabGreatDoorM49
import Derived.Test.YthdhegmlknpllabGreatDoorM50
import Derived.Test.YthdhegmlknpllabGreatDoorM16
/-
  The walk of tetherkeep's lossy (7).
-/
namespace Go.Proofs.YthdhegmlknpllabGreatDoor
open Go.RowKit Go.Maps Go.MuLone

theorem pick_big (c : Int) (w : World) (hc : In64 c) :
    Calls Tryz.prog 16 #[.int .i64 c, .int .i64 1099511627776] w fun e w' => e = .returned (.int .i64 (pk c 1099511627776)) ∧ w' = w := by
  obtain ⟨c1, c2⟩ := hc
  have hr := pk_lt c 1099511627776 (by omega)
  by_cases h0 : c < 0
  · have e : (-(c + 1)).tmod 1099511627776 = pk c 1099511627776 := by unfold pk; rw [if_pos h0, Int.tmod_eq_emod_of_nonneg (by omega)]
    rw [Int.neg_tmod] at e
    go_enter Tryz.func16, Tryz.ntmps16
    go_wp2
    go_ret
    refine ⟨ret_int ?_, rfl⟩
    go_num
  · have e : c.tmod 1099511627776 = pk c 1099511627776 := by unfold pk; rw [if_neg h0, Int.tmod_eq_emod_of_nonneg (by omega)]
    rw [Int.tmod_eq_emod_of_nonneg (by omega)] at e
    go_enter Tryz.func16, Tryz.ntmps16
    go_wp2
    go_ret
    refine ⟨ret_int ?_, rfl⟩
    go_num

/-- A block is written on the source. -/
theorem net_write {w0 W : World} {N : NC} {x : PS} (h : Net w0 W N x) (k : Nat) (hk : k < N.n) (y : B4) (hq : x.q ≤ 700000) :
    Calls Tryz.prog 15 #[.pointer (some ⟨N.c.b, 0, none⟩), .int .i64 k, y.str] W fun e w' => e = .returned (.int .i64 0) ∧ ∃ S', Net w0 w' N ⟨S', x.ti, x.ps, x.im, x.Rs, x.way, x.q + 1⟩ ∧ S'.ss = x.S.ss := by
  obtain ⟨rv, wv, iv, vs, M⟩ := h.m
  refine (write_ok N.c.B N.c.b x.S k y W M.sk.rep (by rw [h.I.src.vol]; exact hk) (by have := h.I.lg; omega)).mono ?_
  rintro e w' ⟨rfl, lv, r, f, o⟩
  have hft : ∀ j ∈ foot N.c.b ((x.S.write k y).noted 87 (wtext k y) lv), j ∈ foot N.c.b x.S ∨ W.heap.size ≤ j := fun j hj => by
    simp only [foot, Sto.noted, Sto.write, List.mem_append, List.mem_cons, Option.mem_toList] at hj ⊢
    rcases hj with (hj | hj) | hj
    · exact Or.inl (Or.inl (Or.inl hj))
    · exact Or.inl (Or.inl (Or.inr hj))
    · exact (o j hj).imp_left Or.inr
  have s := (SS.start M.sk).step r f hft
  exact ⟨rfl, _, ⟨⟨rv, wv, iv, vs, M.source s⟩, h.I.write k y 87 (wtext k y) lv (by rw [show (wtext k y).size = 5 from rfl]; omega), h.C, h.srcBelow s, h.lo⟩, rfl⟩

theorem rowB_net {w0 W : World} {ao : Option Addr} {zs : List Int} {cap : Nat} (h : RowB w0.heap.size w0 ao zs cap) (be : Below w0.heap.size w0 W) : RowB w0.heap.size W ao zs cap := by
  refine ⟨h.1, fun h0 => ?_⟩
  obtain ⟨b, off, e, hb, hc⟩ := h.2 h0
  exact ⟨b, off, e, hb, fun i hi => (World.cell?_of_block (be.block b hb)).trans (hc i hi)⟩

/-- A letter is lost. -/
theorem los_rm {w0 W3 w10 : World} {N : NC} {x : PS} {rv wv iv v10 : Value} {vs : List Value} {a wl : Nat} (h : Net w0 W3 N x) (M : NM N.nb N.BN N.n N.c N.rcs W3 x.S x.ti x.ps x.im x.Rs x.way rv wv iv vs) (hwl : x.way.length = wl) (ha : a < wl) (o : w10.ownsRow N.BN 108 3 v10 (wl - 1) (mlC N.n (x.way.take a ++ (x.way.drop (a + 1)).take (wl - (a + 1))))) (f : Fr [] W3 w10) : Net w0 (w10.setCell ⟨N.nb, 3, none⟩ v10) N ⟨x.S, x.ti, x.ps, x.im, x.Rs, x.way.eraseIdx a, x.q⟩ := by
  have e8 : x.way.take a ++ (x.way.drop (a + 1)).take (wl - (a + 1)) = x.way.eraseIdx a := by
    rw [List.eraseIdx_eq_take_drop_succ, List.take_of_length_le (l := x.way.drop (a + 1)) (by rw [List.length_drop, hwl]; exact Nat.le_refl _)]
  have e9 : (x.way.eraseIdx a).length = wl - 1 := by
    rw [List.length_eraseIdx_of_lt (by omega), hwl]
  exact h.setWay (W9 := w10) M f (by simp) (wv' := v10) (way' := x.way.eraseIdx a) (q' := x.q) (by rw [e9, ← e8]; exact o) (h.I.sub (fun m hm => (List.eraseIdx_sublist _ _).subset hm) (by rw [e9, hwl]; omega))

set_option maxRecDepth 100000 in
set_option maxHeartbeats 3200000 in
theorem lossy_any (w0 : World) (N : NC) (x0 : PS) (ao : Option Addr) (zs : List Int) (cap : Nat) (w : World) (h : Net w0 w N x0) (hr : RowB w0.heap.size w0 ao zs cap) (hz : Bnd zs) (hq0 : x0.q ≤ 10) (ht0 : x0.ti = 0) :
    Calls Tryz.prog 7 #[.pointer (some ⟨N.nb, 0, none⟩), .slice ao zs.length cap] w fun e w' => e = .returned (.bool true) ∧ ∃ x, Net w0 w' N x ∧ x.q ≤ 6000 ∧ x.ti ≤ 1000 := by
  have H0 : Hid (Net w0 w N x0) := h
  have HB : Hid (RowB w0.heap.size w0 ao zs cap ∧ Bnd zs) := ⟨hr, hz⟩
  have hn4 := h.I.n1
  clear h hr hz
  go_enter Tryz.func7, Tryz.ntmps7
  go_wp2
  go_loopw [5] (fun i wr => ∃ (j : Nat) (x : PS), j ≤ 200 ∧ j ≤ zs.length ∧ i = .int .i64 j ∧ Hid (Net w0 wr N x ∧ x.q ≤ 10 + 25 * j ∧ x.ti ≤ 5 * j)) (fun i _ => 200 - (intOf i).toNat)
  case atStart => exact ⟨0, x0, by omega, by omega, rfl, H0.out, by omega, by omega⟩
  case round =>
    obtain ⟨j, x, hj, hjl, rfl, HX⟩ := hrel
    obtain ⟨W3, hW3⟩ : ∃ W3, W3 = wr := ⟨_, rfl⟩
    subst hW3
    by_cases hlt : j < zs.length
    · by_cases hlt2 : j < 200
      · have hltz : (j : Int) < (zs.length : Int) := by omega
        have hltz2 : (j : Int) < 200 := by omega
        have j0 : (0 : Int) ≤ (j : Int) := by omega
        obtain ⟨rb, off, hao, hrb, hc⟩ := (rowB_net HB.out.1 HX.out.1.be).2 (by omega)
        have d1 : W3.cell? ⟨rb, off + j, none⟩ = some (.int .i64 (tm zs j)) := hc j hlt
        have hx := HB.out.2 j hlt
        obtain ⟨z, hzz⟩ : ∃ z, tm zs j = z := ⟨_, rfl⟩
        rw [hzz] at d1 hx
        subst hao
        have hcap : zs.length ≤ cap := HB.out.1.1
        have hcl := pk_lt z 1099511627776 (by omega)
        obtain ⟨c, hcc⟩ : ∃ c, pk z 1099511627776 = c := ⟨_, rfl⟩
        have HP : Hid (∀ W, Calls Tryz.prog 16 #[.int .i64 z, .int .i64 1099511627776] W fun e w' => e = .returned (.int .i64 c) ∧ w' = W) := fun W => by rw [← hcc]; exact pick_big z W hx
        rw [hcc] at hcl
        obtain ⟨c0, c1⟩ := hcl
        have hq1 : x.q ≤ 5100 := by have := HX.out.2.1; omega
        clear hc hzz hcc
        have h8s : c % 8 = 0 ∨ c % 8 = 1 ∨ c % 8 = 2 ∨ c % 8 = 3 ∨ c % 8 = 4 ∨ c % 8 = 5 ∨ c % 8 = 6 ∨ c % 8 = 7 := by omega
        rcases h8s with h8 | h8 | h8 | h8 | h8 | h8 | h8 | h8
        · have hv : c % 8 = 0 := h8
          obtain ⟨T, hT, hT4⟩ : ∃ T : Nat, c / 8 % 5 = (T : Int) ∧ T ≤ 4 := ⟨(c / 8 % 5).toNat, by omega, by omega⟩
          go_wp2_with (first
            | (go_at_call 16; refine (HP.out _).mono ?_; rintro e w' ⟨rfl, hw'⟩; have hw'' := hw'.symm; subst hw''))
          clear hv h8
          go_loopw [7, 8] (fun o i wr => ∃ (t : Nat) (x' : PS), t ≤ T + 1 ∧ o = .bool true ∧ i = .int .i64 t ∧ Hid (Net w0 wr N x' ∧ x'.q ≤ 10 + 25 * j + 5 * t ∧ x'.ti ≤ 5 * j + t)) (fun _ i _ => T + 1 - (intOf i).toNat)
          case atStart => exact ⟨0, x, by omega, rfl, rfl, HX.out.1, by have := HX.out.2.1; omega, by have := HX.out.2.2; omega⟩
          case round =>
            obtain ⟨t, x', ht, rfl, rfl, HT⟩ := hrel
            obtain ⟨W5, hW5⟩ : ∃ W5, W5 = wr := ⟨_, rfl⟩
            subst hW5
            by_cases hlt3 : t < T + 1
            · have hlz : (t : Int) < 1 + (T : Int) := by omega
              have HTi : Hid (Calls Tryz.prog 8 #[.pointer (some ⟨N.nb, 0, none⟩)] W5 fun e w' => e = .returned (.bool true) ∧ ∃ x'', Net w0 w' N x'' ∧ x''.q ≤ 10 + 25 * j + 5 * (t + 1) ∧ x''.ti ≤ 5 * j + (t + 1 : Nat)) := by
                have h1 := HT.out.2.1
                have h2 := HT.out.2.2
                refine (ticks_any w0 N x' W5 HT.out.1 (by omega) (by omega)).mono ?_
                rintro e w' ⟨rfl, S', ps', im', L, n, _⟩
                exact ⟨rfl, _, n, by simp; omega, by simp; omega⟩
              go_wp2_with (first
                | (go_at_call 8; refine HTi.out.mono ?_; rintro e w6 ⟨rfl, x'', n6⟩; have H6 : Hid (Net w0 w6 N x'' ∧ x''.q ≤ 10 + 25 * j + 5 * (t + 1) ∧ x''.ti ≤ 5 * j + (t + 1 : Nat)) := n6; clear n6))
              go_roundw
              case rel => exact ⟨t + 1, x'', by omega, rfl, by go_num, H6⟩
              case measure => simp [intOf]; omega
            · have htt : t = T + 1 := by omega
              subst htt
              have hq' : x'.q ≤ 700000 := by have := HT.out.2.1; omega
              go_wp2_with (first
                | (go_at_call 11; refine (based_any w0 N x' _ HT.out.1).mono ?_; rintro e w8 ⟨rfl, n8⟩; have H8 : Hid (Net w0 w8 N x') := n8; clear n8)
                | (go_at_call 12; refine (right_any w0 N x' _ H8.out hq').mono ?_; rintro e w9 ⟨rfl, n9⟩; have H9 : Hid (Net w0 w9 N x') := n9; clear n9))
              go_roundw
              case rel => exact ⟨j + 1, x', by omega, by omega, by go_num, H9.out, by have := HT.out.2.1; omega, by have := HT.out.2.2; omega⟩
              case measure => simp [intOf]; omega
        · have hv : c % 8 = 1 := h8
          obtain ⟨T, hT, hT4⟩ : ∃ T : Nat, c / 8 % 5 = (T : Int) ∧ T ≤ 4 := ⟨(c / 8 % 5).toNat, by omega, by omega⟩
          go_wp2_with (first
            | (go_at_call 16; refine (HP.out _).mono ?_; rintro e w' ⟨rfl, hw'⟩; have hw'' := hw'.symm; subst hw''))
          clear hv h8
          go_loopw [7, 8] (fun o i wr => ∃ (t : Nat) (x' : PS), t ≤ T + 1 ∧ o = .bool true ∧ i = .int .i64 t ∧ Hid (Net w0 wr N x' ∧ x'.q ≤ 10 + 25 * j + 5 * t ∧ x'.ti ≤ 5 * j + t)) (fun _ i _ => T + 1 - (intOf i).toNat)
          case atStart => exact ⟨0, x, by omega, rfl, rfl, HX.out.1, by have := HX.out.2.1; omega, by have := HX.out.2.2; omega⟩
          case round =>
            obtain ⟨t, x', ht, rfl, rfl, HT⟩ := hrel
            obtain ⟨W5, hW5⟩ : ∃ W5, W5 = wr := ⟨_, rfl⟩
            subst hW5
            by_cases hlt3 : t < T + 1
            · have hlz : (t : Int) < 1 + (T : Int) := by omega
              have HTi : Hid (Calls Tryz.prog 8 #[.pointer (some ⟨N.nb, 0, none⟩)] W5 fun e w' => e = .returned (.bool true) ∧ ∃ x'', Net w0 w' N x'' ∧ x''.q ≤ 10 + 25 * j + 5 * (t + 1) ∧ x''.ti ≤ 5 * j + (t + 1 : Nat)) := by
                have h1 := HT.out.2.1
                have h2 := HT.out.2.2
                refine (ticks_any w0 N x' W5 HT.out.1 (by omega) (by omega)).mono ?_
                rintro e w' ⟨rfl, S', ps', im', L, n, _⟩
                exact ⟨rfl, _, n, by simp; omega, by simp; omega⟩
              go_wp2_with (first
                | (go_at_call 8; refine HTi.out.mono ?_; rintro e w6 ⟨rfl, x'', n6⟩; have H6 : Hid (Net w0 w6 N x'' ∧ x''.q ≤ 10 + 25 * j + 5 * (t + 1) ∧ x''.ti ≤ 5 * j + (t + 1 : Nat)) := n6; clear n6))
              go_roundw
              case rel => exact ⟨t + 1, x'', by omega, rfl, by go_num, H6⟩
              case measure => simp [intOf]; omega
            · have htt : t = T + 1 := by omega
              subst htt
              have hq' : x'.q ≤ 700000 := by have := HT.out.2.1; omega
              go_wp2_with (first
                | (go_at_call 11; refine (based_any w0 N x' _ HT.out.1).mono ?_; rintro e w8 ⟨rfl, n8⟩; have H8 : Hid (Net w0 w8 N x') := n8; clear n8)
                | (go_at_call 12; refine (right_any w0 N x' _ H8.out hq').mono ?_; rintro e w9 ⟨rfl, n9⟩; have H9 : Hid (Net w0 w9 N x') := n9; clear n9))
              go_roundw
              case rel => exact ⟨j + 1, x', by omega, by omega, by go_num, H9.out, by have := HT.out.2.1; omega, by have := HT.out.2.2; omega⟩
              case measure => simp [intOf]; omega
        · have hv : c % 8 = 2 := h8
          obtain ⟨T, hT, hT4⟩ : ∃ T : Nat, c / 8 % 5 = (T : Int) ∧ T ≤ 4 := ⟨(c / 8 % 5).toNat, by omega, by omega⟩
          go_wp2_with (first
            | (go_at_call 16; refine (HP.out _).mono ?_; rintro e w' ⟨rfl, hw'⟩; have hw'' := hw'.symm; subst hw''))
          clear hv h8
          go_loopw [7, 8] (fun o i wr => ∃ (t : Nat) (x' : PS), t ≤ T + 1 ∧ o = .bool true ∧ i = .int .i64 t ∧ Hid (Net w0 wr N x' ∧ x'.q ≤ 10 + 25 * j + 5 * t ∧ x'.ti ≤ 5 * j + t)) (fun _ i _ => T + 1 - (intOf i).toNat)
          case atStart => exact ⟨0, x, by omega, rfl, rfl, HX.out.1, by have := HX.out.2.1; omega, by have := HX.out.2.2; omega⟩
          case round =>
            obtain ⟨t, x', ht, rfl, rfl, HT⟩ := hrel
            obtain ⟨W5, hW5⟩ : ∃ W5, W5 = wr := ⟨_, rfl⟩
            subst hW5
            by_cases hlt3 : t < T + 1
            · have hlz : (t : Int) < 1 + (T : Int) := by omega
              have HTi : Hid (Calls Tryz.prog 8 #[.pointer (some ⟨N.nb, 0, none⟩)] W5 fun e w' => e = .returned (.bool true) ∧ ∃ x'', Net w0 w' N x'' ∧ x''.q ≤ 10 + 25 * j + 5 * (t + 1) ∧ x''.ti ≤ 5 * j + (t + 1 : Nat)) := by
                have h1 := HT.out.2.1
                have h2 := HT.out.2.2
                refine (ticks_any w0 N x' W5 HT.out.1 (by omega) (by omega)).mono ?_
                rintro e w' ⟨rfl, S', ps', im', L, n, _⟩
                exact ⟨rfl, _, n, by simp; omega, by simp; omega⟩
              go_wp2_with (first
                | (go_at_call 8; refine HTi.out.mono ?_; rintro e w6 ⟨rfl, x'', n6⟩; have H6 : Hid (Net w0 w6 N x'' ∧ x''.q ≤ 10 + 25 * j + 5 * (t + 1) ∧ x''.ti ≤ 5 * j + (t + 1 : Nat)) := n6; clear n6))
              go_roundw
              case rel => exact ⟨t + 1, x'', by omega, rfl, by go_num, H6⟩
              case measure => simp [intOf]; omega
            · have htt : t = T + 1 := by omega
              subst htt
              have hq' : x'.q ≤ 700000 := by have := HT.out.2.1; omega
              go_wp2_with (first
                | (go_at_call 11; refine (based_any w0 N x' _ HT.out.1).mono ?_; rintro e w8 ⟨rfl, n8⟩; have H8 : Hid (Net w0 w8 N x') := n8; clear n8)
                | (go_at_call 12; refine (right_any w0 N x' _ H8.out hq').mono ?_; rintro e w9 ⟨rfl, n9⟩; have H9 : Hid (Net w0 w9 N x') := n9; clear n9))
              go_roundw
              case rel => exact ⟨j + 1, x', by omega, by omega, by go_num, H9.out, by have := HT.out.2.1; omega, by have := HT.out.2.2; omega⟩
              case measure => simp [intOf]; omega
        · have hv : c % 8 = 3 := h8
          obtain ⟨n, hn⟩ : ∃ n, N.n = n := ⟨_, rfl⟩
          have HN : Hid (N.n = n) := hn
          rw [hn] at hn4
          have q2 : ¬ ((n : Int) = 0) := by omega
          have q3 : ¬ n = 0 := by omega
          have q4 : (n == 0) = false := by simpa using q3
          have hmo1 := Int.emod_nonneg (c / 8) q2
          have hmo2 := Int.emod_lt_of_pos (c / 8) (show (0 : Int) < (n : Int) by omega)
          obtain ⟨b, hb⟩ : ∃ b : Nat, c / 8 % (n : Int) = (b : Int) := ⟨(c / 8 % (n : Int)).toNat, by omega⟩
          rw [hb] at hmo1 hmo2
          have hbn : b < n := by omega
          have hD64 : IntKind.i64.wrap (c.tdiv 64) = c / 64 := by rw [Int.tdiv_eq_ediv_of_nonneg (by omega)]; exact wrap_fit ⟨by omega, by omega⟩
          have hD8 : IntKind.i64.wrap (c.tdiv 8) = c / 8 := by rw [Int.tdiv_eq_ediv_of_nonneg (by omega)]; exact wrap_fit ⟨by omega, by omega⟩
          have hMt : (c / 8).tmod n = (b : Int) := by rw [Int.tmod_eq_emod_of_nonneg (by omega), hb]
          have HWr : Hid (∀ (W : World) (y : B4), Fr [] W3 W → Calls Tryz.prog 15 #[.pointer (some ⟨N.c.b, 0, none⟩), .int .i64 b, y.str] W fun e w' => e = .returned (.int .i64 0) ∧ ∃ x', Net w0 w' N x' ∧ x'.q ≤ 10 + 25 * (j + 1) ∧ x'.ti ≤ 5 * (j + 1 : Nat)) := fun W y hW => by
            have h1 := HX.out.2.1
            have h2 := HX.out.2.2
            refine (net_write (HX.out.1.same hW) b (by rw [HN.out]; exact hbn) y (by omega)).mono ?_
            rintro e w' ⟨rfl, S', n, _⟩
            exact ⟨rfl, _, n, by simp; omega, by simp; omega⟩
          have HSt : Hid (∀ W, Fr [] W3 W → Calls Tryz.prog 13 #[.pointer (some ⟨N.c.xb, 0, none⟩)] W fun e w' => e = .returned (.pointer (some ⟨N.c.b, 0, none⟩)) ∧ w' = W) := fun W hW => by
            obtain ⟨rv, wv, iv, vs, M⟩ := (HX.out.1.same hW).m
            exact store_s M.sk.sc
          have HDa : Hid (∀ W, Fr [] W3 W → Calls Tryz.prog 17 #[.int .i64 (c / 64)] W fun e w' => ∃ x : B4, e = .returned x.str ∧ Fr [] W3 w') := fun W hW => (data_any _ W ⟨by omega, by omega⟩).mono fun e w' ⟨y, e1, f⟩ => ⟨y, e1, hW.trans f (by simp)⟩
          have HNc : Hid (∀ W x', Net w0 W N x' → W.cell? ⟨N.nb, 0, none⟩ = some (.pointer (some ⟨N.c.xb, 0, none⟩)) ∧ W.cell? ⟨N.nb, 2, none⟩ = some (.int .i64 n)) := fun W x' hW => by
            obtain ⟨rv, wv, iv, vs, M⟩ := hW.m
            have h8 := M.cells
            rw [hn] at h8
            exact ⟨h8.1, h8.2.2.1⟩
          have HNb : Hid (∀ W, Fr [] W3 W → W.cell? ⟨N.nb, 0, none⟩ = some (.pointer (some ⟨N.c.xb, 0, none⟩)) ∧ W.cell? ⟨N.nb, 2, none⟩ = some (.int .i64 n)) := fun W hW => by
            obtain ⟨rv, wv, iv, vs, M⟩ := (HX.out.1.same hW).m
            have h8 := M.cells
            rw [hn] at h8
            exact ⟨h8.1, h8.2.2.1⟩
          obtain ⟨n0, n2⟩ := HNb.out W3 (Fr.refl _ _)
          clear hn
          go_wp2_with (first
            | (go_at_call 16; refine (HP.out _).mono ?_; rintro e w' ⟨rfl, hw'⟩; have hw'' := hw'.symm; subst hw''))
          go_region_held3 (fun w' => w'.cell? ⟨N.nb, 0, none⟩ = some (.pointer (some ⟨N.c.xb, 0, none⟩)) ∧ w'.cell? ⟨N.nb, 2, none⟩ = some (.int .i64 n))
            (first
              | exact ⟨n05, n25⟩
              | go_keep)
            (first
              | (go_at_call 13; refine (HSt.out _ (by first | exact Fr.refl _ _ | exact (Fr.refl _ _).drew | exact (Fr.refl _ _).drewN _)).mono ?_; rintro e w' ⟨rfl, hw'⟩; have hw'' := hw'.symm; subst hw'')
              | (go_at_call 17; refine (HDa.out _ ((Fr.refl [] W3).drew)).mono ?_; rintro e w5 ⟨y, rfl, f5⟩; have F5 : Hid (Fr [] W3 w5) := f5; obtain ⟨n05, n25⟩ := HNb.out w5 F5.out; clear f5)
              | (go_at_call 15; refine (HWr.out _ y F5.out).mono ?_; rintro e w7 ⟨rfl, x', n7⟩; have hq' : x'.q ≤ 700000 := (by have := n7.2.1; omega); have HT : Hid (Net w0 w7 N x' ∧ x'.q ≤ 10 + 25 * (j + 1) ∧ x'.ti ≤ 5 * (j + 1 : Nat)) := n7; obtain ⟨n05, n25⟩ := (HNc.out w7 x' n7.1); clear n7))
          all_goals
            go_wp2_with (first
              | (go_at_call 11; refine (based_any w0 N x' _ HT.out.1).mono ?_; rintro e w8 ⟨rfl, n8⟩; have H8 : Hid (Net w0 w8 N x') := n8; clear n8)
              | (go_at_call 12; refine (right_any w0 N x' _ H8.out hq').mono ?_; rintro e w9 ⟨rfl, n9⟩; have H9 : Hid (Net w0 w9 N x') := n9; clear n9))
            go_roundw
            case rel => exact ⟨j + 1, x', by omega, by omega, by go_num, H9.out, HT.out.2.1, HT.out.2.2⟩
            case measure => simp [intOf]; omega
        · have hv : c % 8 = 4 := h8
          obtain ⟨rv, wv, iv, vs, M⟩ := HX.out.1.m
          obtain ⟨wa, wc, hwv⟩ := own_shape M.wo
          subst hwv
          obtain ⟨wl, hwl⟩ : ∃ wl, x.way.length = wl := ⟨_, rfl⟩
          have n3 := M.cells.2.2.2.1
          rw [hwl] at n3
          have hwq : wl ≤ 40000 := by have := HX.out.1.I.wl; have := HX.out.2.1; omega
          clear M
          by_cases hw0 : wl = 0
          · subst hw0
            have hq' : x.q ≤ 700000 := by omega
            go_wp2_with (first
              | (go_at_call 16; refine (HP.out _).mono ?_; rintro e w' ⟨rfl, hw'⟩; have hw'' := hw'.symm; subst hw'')
              | (go_at_call 11; refine (based_any w0 N x _ HX.out.1).mono ?_; rintro e w8 ⟨rfl, n8⟩; have H8 : Hid (Net w0 w8 N x) := n8; clear n8)
              | (go_at_call 12; refine (right_any w0 N x _ H8.out hq').mono ?_; rintro e w9 ⟨rfl, n9⟩; have H9 : Hid (Net w0 w9 N x) := n9; clear n9))
            go_roundw
            case rel => exact ⟨j + 1, x, by omega, by omega, by go_num, H9.out, by have := HX.out.2.1; omega, by have := HX.out.2.2; omega⟩
            case measure => simp [intOf]; omega
          · have hwp : (0 : Int) < (wl : Int) := by omega
            have q2 : ¬ ((wl : Int) = 0) := by omega
            have q4 : (wl == 0) = false := by simpa using hw0
            have hmo1 := Int.emod_nonneg (c / 8) q2
            have hmo2 := Int.emod_lt_of_pos (c / 8) hwp
            obtain ⟨a, ha⟩ : ∃ a : Nat, c / 8 % (wl : Int) = (a : Int) := ⟨(c / 8 % (wl : Int)).toNat, by omega⟩
            rw [ha] at hmo1 hmo2
            have haw : a < x.way.length := by omega
            obtain ⟨st, hst⟩ : ∃ st, (c / 1024 % 4 == 0) = st := ⟨_, rfl⟩
            have HGi : Hid (Calls Tryz.prog 22 #[.pointer (some ⟨N.nb, 0, none⟩), .int .i64 a, .bool st] W3 fun e w' => e = .returned (.bool true) ∧ ∃ x', Net w0 w' N x' ∧ x'.q ≤ 10 + 25 * (j + 1) ∧ x'.ti ≤ 5 * (j + 1 : Nat)) := by
              have h1 := HX.out.2.1
              have h2 := HX.out.2.2
              refine (gives_any w0 N x a st _ _ W3 HX.out.1 (by omega) (List.getElem?_eq_getElem haw)).mono ?_
              rintro e w' ⟨rfl, S', ps', Rs', way', n, _⟩
              exact ⟨rfl, _, n, by simp; omega, by simp; omega⟩
            clear hwl haw
            go_wp2_with (first
              | (go_at_call 16; refine (HP.out _).mono ?_; rintro e w' ⟨rfl, hw'⟩; have hw'' := hw'.symm; subst hw'')
              | (go_at_call 22; refine HGi.out.mono ?_; rintro e w7 ⟨rfl, x', n7⟩; have hq' : x'.q ≤ 700000 := (by have := n7.2.1; omega); have HT : Hid (Net w0 w7 N x' ∧ x'.q ≤ 10 + 25 * (j + 1) ∧ x'.ti ≤ 5 * (j + 1 : Nat)) := n7; clear n7)
              | (go_at_call 11; refine (based_any w0 N x' _ HT.out.1).mono ?_; rintro e w8 ⟨rfl, n8⟩; have H8 : Hid (Net w0 w8 N x') := n8; clear n8)
              | (go_at_call 12; refine (right_any w0 N x' _ H8.out hq').mono ?_; rintro e w9 ⟨rfl, n9⟩; have H9 : Hid (Net w0 w9 N x') := n9; clear n9))
            go_roundw
            case rel => exact ⟨j + 1, x', by omega, by omega, by go_num, H9.out, HT.out.2.1, HT.out.2.2⟩
            case measure => simp [intOf]; omega
        · have hv : c % 8 = 5 := h8
          obtain ⟨rv, wv, iv, vs, M⟩ := HX.out.1.m
          obtain ⟨wa, wc, hwv⟩ := own_shape M.wo
          subst hwv
          obtain ⟨wl, hwl⟩ : ∃ wl, x.way.length = wl := ⟨_, rfl⟩
          have n3 := M.cells.2.2.2.1
          rw [hwl] at n3
          have hwq : wl ≤ 40000 := by have := HX.out.1.I.wl; have := HX.out.2.1; omega
          clear M
          by_cases hw0 : wl = 0
          · subst hw0
            have hq' : x.q ≤ 700000 := by omega
            go_wp2_with (first
              | (go_at_call 16; refine (HP.out _).mono ?_; rintro e w' ⟨rfl, hw'⟩; have hw'' := hw'.symm; subst hw'')
              | (go_at_call 11; refine (based_any w0 N x _ HX.out.1).mono ?_; rintro e w8 ⟨rfl, n8⟩; have H8 : Hid (Net w0 w8 N x) := n8; clear n8)
              | (go_at_call 12; refine (right_any w0 N x _ H8.out hq').mono ?_; rintro e w9 ⟨rfl, n9⟩; have H9 : Hid (Net w0 w9 N x) := n9; clear n9))
            go_roundw
            case rel => exact ⟨j + 1, x, by omega, by omega, by go_num, H9.out, by have := HX.out.2.1; omega, by have := HX.out.2.2; omega⟩
            case measure => simp [intOf]; omega
          · have hwp : (0 : Int) < (wl : Int) := by omega
            have q2 : ¬ ((wl : Int) = 0) := by omega
            have q4 : (wl == 0) = false := by simpa using hw0
            have hmo1 := Int.emod_nonneg (c / 8) q2
            have hmo2 := Int.emod_lt_of_pos (c / 8) hwp
            obtain ⟨a, ha⟩ : ∃ a : Nat, c / 8 % (wl : Int) = (a : Int) := ⟨(c / 8 % (wl : Int)).toNat, by omega⟩
            rw [ha] at hmo1 hmo2
            have haw : a < x.way.length := by omega
            obtain ⟨st, hst⟩ : ∃ st, (c / 1024 % 4 == 0) = st := ⟨_, rfl⟩
            have HGi : Hid (Calls Tryz.prog 22 #[.pointer (some ⟨N.nb, 0, none⟩), .int .i64 a, .bool st] W3 fun e w' => e = .returned (.bool true) ∧ ∃ x', Net w0 w' N x' ∧ x'.q ≤ 10 + 25 * (j + 1) ∧ x'.ti ≤ 5 * (j + 1 : Nat)) := by
              have h1 := HX.out.2.1
              have h2 := HX.out.2.2
              refine (gives_any w0 N x a st _ _ W3 HX.out.1 (by omega) (List.getElem?_eq_getElem haw)).mono ?_
              rintro e w' ⟨rfl, S', ps', Rs', way', n, _⟩
              exact ⟨rfl, _, n, by simp; omega, by simp; omega⟩
            clear hwl haw
            go_wp2_with (first
              | (go_at_call 16; refine (HP.out _).mono ?_; rintro e w' ⟨rfl, hw'⟩; have hw'' := hw'.symm; subst hw'')
              | (go_at_call 22; refine HGi.out.mono ?_; rintro e w7 ⟨rfl, x', n7⟩; have hq' : x'.q ≤ 700000 := (by have := n7.2.1; omega); have HT : Hid (Net w0 w7 N x' ∧ x'.q ≤ 10 + 25 * (j + 1) ∧ x'.ti ≤ 5 * (j + 1 : Nat)) := n7; clear n7)
              | (go_at_call 11; refine (based_any w0 N x' _ HT.out.1).mono ?_; rintro e w8 ⟨rfl, n8⟩; have H8 : Hid (Net w0 w8 N x') := n8; clear n8)
              | (go_at_call 12; refine (right_any w0 N x' _ H8.out hq').mono ?_; rintro e w9 ⟨rfl, n9⟩; have H9 : Hid (Net w0 w9 N x') := n9; clear n9))
            go_roundw
            case rel => exact ⟨j + 1, x', by omega, by omega, by go_num, H9.out, HT.out.2.1, HT.out.2.2⟩
            case measure => simp [intOf]; omega
        · have hv : c % 8 = 6 := h8
          obtain ⟨rv, wv, iv, vs, M⟩ := HX.out.1.m
          obtain ⟨wa, wc, hwv⟩ := own_shape M.wo
          subst hwv
          obtain ⟨wl, hwl⟩ : ∃ wl, x.way.length = wl := ⟨_, rfl⟩
          have n3 := M.cells.2.2.2.1
          rw [hwl] at n3
          have hwq : wl ≤ 40000 := by have := HX.out.1.I.wl; have := HX.out.2.1; omega
          clear M
          by_cases hw0 : wl = 0
          · subst hw0
            have hq' : x.q ≤ 700000 := by omega
            go_wp2_with (first
              | (go_at_call 16; refine (HP.out _).mono ?_; rintro e w' ⟨rfl, hw'⟩; have hw'' := hw'.symm; subst hw'')
              | (go_at_call 11; refine (based_any w0 N x _ HX.out.1).mono ?_; rintro e w8 ⟨rfl, n8⟩; have H8 : Hid (Net w0 w8 N x) := n8; clear n8)
              | (go_at_call 12; refine (right_any w0 N x _ H8.out hq').mono ?_; rintro e w9 ⟨rfl, n9⟩; have H9 : Hid (Net w0 w9 N x) := n9; clear n9))
            go_roundw
            case rel => exact ⟨j + 1, x, by omega, by omega, by go_num, H9.out, by have := HX.out.2.1; omega, by have := HX.out.2.2; omega⟩
            case measure => simp [intOf]; omega
          · have hwp : (0 : Int) < (wl : Int) := by omega
            have q2 : ¬ ((wl : Int) = 0) := by omega
            have q4 : (wl == 0) = false := by simpa using hw0
            have hmo1 := Int.emod_nonneg (c / 8) q2
            have hmo2 := Int.emod_lt_of_pos (c / 8) hwp
            obtain ⟨a, ha⟩ : ∃ a : Nat, c / 8 % (wl : Int) = (a : Int) := ⟨(c / 8 % (wl : Int)).toNat, by omega⟩
            rw [ha] at hmo1 hmo2
            have haw : a < x.way.length := by omega
            obtain ⟨st, hst⟩ : ∃ st, (c / 1024 % 4 == 0) = st := ⟨_, rfl⟩
            have HGi : Hid (Calls Tryz.prog 22 #[.pointer (some ⟨N.nb, 0, none⟩), .int .i64 a, .bool st] W3 fun e w' => e = .returned (.bool true) ∧ ∃ x', Net w0 w' N x' ∧ x'.q ≤ 10 + 25 * (j + 1) ∧ x'.ti ≤ 5 * (j + 1 : Nat)) := by
              have h1 := HX.out.2.1
              have h2 := HX.out.2.2
              refine (gives_any w0 N x a st _ _ W3 HX.out.1 (by omega) (List.getElem?_eq_getElem haw)).mono ?_
              rintro e w' ⟨rfl, S', ps', Rs', way', n, _⟩
              exact ⟨rfl, _, n, by simp; omega, by simp; omega⟩
            clear hwl haw
            go_wp2_with (first
              | (go_at_call 16; refine (HP.out _).mono ?_; rintro e w' ⟨rfl, hw'⟩; have hw'' := hw'.symm; subst hw'')
              | (go_at_call 22; refine HGi.out.mono ?_; rintro e w7 ⟨rfl, x', n7⟩; have hq' : x'.q ≤ 700000 := (by have := n7.2.1; omega); have HT : Hid (Net w0 w7 N x' ∧ x'.q ≤ 10 + 25 * (j + 1) ∧ x'.ti ≤ 5 * (j + 1 : Nat)) := n7; clear n7)
              | (go_at_call 11; refine (based_any w0 N x' _ HT.out.1).mono ?_; rintro e w8 ⟨rfl, n8⟩; have H8 : Hid (Net w0 w8 N x') := n8; clear n8)
              | (go_at_call 12; refine (right_any w0 N x' _ H8.out hq').mono ?_; rintro e w9 ⟨rfl, n9⟩; have H9 : Hid (Net w0 w9 N x') := n9; clear n9))
            go_roundw
            case rel => exact ⟨j + 1, x', by omega, by omega, by go_num, H9.out, HT.out.2.1, HT.out.2.2⟩
            case measure => simp [intOf]; omega
        · have hv : c % 8 = 7 := h8
          obtain ⟨i0, hi, hz0, hz1, hz2⟩ := info_parts info108
          obtain ⟨rv, wv, iv, vs, M⟩ := HX.out.1.m
          obtain ⟨wa, wc, hwv⟩ := own_shape M.wo
          subst hwv
          obtain ⟨wl, hwl⟩ : ∃ wl, x.way.length = wl := ⟨_, rfl⟩
          have y3 := M.cells.2.2.2.1
          rw [hwl] at y3
          have u3 := M.cells.2.2.2.2.2.1
          have hwq : wl ≤ 40000 := by have := HX.out.1.I.wl; have := HX.out.2.1; omega
          have hq' : x.q ≤ 700000 := by omega
          by_cases hw0 : wl = 0 ∨ c / 1024 % 2 ≠ 0
          · clear M
            by_cases hw1 : wl = 0
            · subst hw1
              go_wp2_with (first
                | (go_at_call 16; refine (HP.out _).mono ?_; rintro e w' ⟨rfl, hw'⟩; have hw'' := hw'.symm; subst hw'')
                | (go_at_call 11; refine (based_any w0 N x _ HX.out.1).mono ?_; rintro e w8 ⟨rfl, n8⟩; have H8 : Hid (Net w0 w8 N x) := n8; clear n8)
                | (go_at_call 12; refine (right_any w0 N x _ H8.out hq').mono ?_; rintro e w9 ⟨rfl, n9⟩; have H9 : Hid (Net w0 w9 N x) := n9; clear n9))
              go_roundw
              case rel => exact ⟨j + 1, x, by omega, by omega, by go_num, H9.out, by have := HX.out.2.1; omega, by have := HX.out.2.2; omega⟩
              case measure => simp [intOf]; omega
            · have hc2 : c / 1024 % 2 = 1 := by omega
              have hwp : (0 : Int) < (wl : Int) := by omega
              go_wp2_with (first
                | (go_at_call 16; refine (HP.out _).mono ?_; rintro e w' ⟨rfl, hw'⟩; have hw'' := hw'.symm; subst hw'')
                | (go_at_call 11; refine (based_any w0 N x _ HX.out.1).mono ?_; rintro e w8 ⟨rfl, n8⟩; have H8 : Hid (Net w0 w8 N x) := n8; clear n8)
                | (go_at_call 12; refine (right_any w0 N x _ H8.out hq').mono ?_; rintro e w9 ⟨rfl, n9⟩; have H9 : Hid (Net w0 w9 N x) := n9; clear n9))
              go_roundw
              case rel => exact ⟨j + 1, x, by omega, by omega, by go_num, H9.out, by have := HX.out.2.1; omega, by have := HX.out.2.2; omega⟩
              case measure => simp [intOf]; omega
          · have hc2 : c / 1024 % 2 = 0 := by omega
            have hw1 : wl ≠ 0 := by omega
            have hwp : (0 : Int) < (wl : Int) := by omega
            have q2 : ¬ ((wl : Int) = 0) := by omega
            have q4 : (wl == 0) = false := by simpa using hw1
            have hmo1 := Int.emod_nonneg (c / 8) q2
            have hmo2 := Int.emod_lt_of_pos (c / 8) hwp
            obtain ⟨a, ha⟩ : ∃ a : Nat, c / 8 % (wl : Int) = (a : Int) := ⟨(c / 8 % (wl : Int)).toNat, by omega⟩
            rw [ha] at hmo1 hmo2
            obtain ⟨wg, hwg, hcap, _⟩ := own_addr M.wo (by omega)
            subst hwg
            have HMM : Hid (NM N.nb N.BN N.n N.c N.rcs W3 x.S x.ti x.ps x.im x.Rs x.way rv (.slice (some ⟨wg, 0, none⟩) wl wc) iv vs) := by rw [hwl] at M; exact M
            have HWl : Hid (x.way.length = wl) := hwl
            have a1 : (a : Int) + 1 ≤ (wl : Int) := by omega
            have hltz3 : (a : Int) < (wl : Int) := by omega
            have hcap2 : (wl : Int) ≤ (wc : Int) := by omega
            have hcap3 : wl ≤ wc := by omega
            have HO1 : Hid (W3.ownsRow N.BN 108 3 (.slice (some ⟨wg, 0, none⟩) wl wc) wl (mlC N.n x.way)) := by have h8 := M.wo; rw [hwl] at h8; exact h8
            have hBN1 : N.BN ≤ W3.heap.size := by have h8 := (Array.getElem?_eq_some_iff.1 M.blk).1; have h9 := M.hnb; omega
            have hl1 : (mlC N.n (x.way.take a)).length = a * 3 := by rw [mlC_len, List.length_take]; omega
            have hl2 : (mlC N.n ((x.way.drop (a + 1)).take (wl - (a + 1)))).length = (wl - (a + 1)) * 3 := by rw [mlC_len, List.length_take, List.length_drop]; omega
            have hws : a + 1 ≤ wl := by omega
            have HNW1 : Hid (∀ k u, (mlC N.n (x.way.take a))[k]? = some u → W3.cell? ((⟨wg, 0, none⟩ : Addr).add k) = some u) := by have h8 := ml_news HO1.out 0 a (by omega); rw [List.drop_zero] at h8; exact h8
            clear M hwl hcap
            by_cases hcc : wc = a + 1
            · subst hcc
              have hwle : wl = a + 1 := by omega
              subst hwle
              have ha' : c / 8 % ((a : Int) + 1) = (a : Int) := by have h9 := ha; rw [Int.natCast_add] at h9; exact h9
              go_wp2_with (first
                | (go_at_call 16; refine (HP.out _).mono ?_; rintro e w' ⟨rfl, hw'⟩; have hw'' := hw'.symm; subst hw'')
                | (at_builtin; refine wpList_append_own _ rfl _ _ 29 rfl W3.heap.size 108 i0 _ 3 32 Tryz.underlying29 hi hz0 hz1 hz2 rfl (by omega) (.slice va9 a vc9) a (mlC N.n (x.way.take a)) rfl H9.out.1 ⟨wg, 0, none⟩ 0 0 [] rfl rfl (fun k u hu => by simp at hu) (fun u hu => by simp at hu) (by unfold maxLen; omega) (by omega) (by have := H9.out.2.1.size; omega) ?_; intro v10 w10 hown10 hgrow10 hne10; rw [Nat.add_zero, List.append_nil] at hown10; obtain ⟨va10, vc10, hv10⟩ := own_shape hown10; subst hv10; have H10 : Hid (w10.ownsRow N.BN 108 3 (.slice va10 a vc10) ((a + 1) - 1) (mlC N.n (x.way.take a ++ (x.way.drop (a + 1)).take ((a + 1) - (a + 1)))) ∧ Fr [] W3 w10 ∧ ∀ k, (Value.slice va10 a vc10).ownBlock = some k → W3.heap.size ≤ k) := ⟨own_rest0 hown10 hBN1, H9.out.2.1.trans ((Fr.refl (Value.slice va9 a vc9).ownBlock.toList _).grown hgrow10 (fun k hk => Or.inl (by simp [hk]))) (fun k hk => Or.inr (by simp at hk; exact (own_tag H9.out.1 hk).1)), fun k hk => (own_tag hown10 hk).1⟩; have y103 : w10.cell? ⟨N.nb, 3, none⟩ = some (.slice (some ⟨wg, 0, none⟩) (a + 1) (a + 1)) := H10.out.2.1.gb.cell y3 (by simp); have u103 : w10.frozen? ⟨N.nb, 3, none⟩ = false := froz_of (HMM.out.same H10.out.2.1).blk _; clear hown10 hgrow10 hne10)
                | (at_builtin; refine wpList_append_own _ rfl _ _ 29 rfl W3.heap.size 108 i0 _ 3 32 Tryz.underlying29 hi hz0 hz1 hz2 rfl (by omega) (.slice none 0 0) 0 [] rfl (World.ownsRow_nil _ _ _ _) ⟨wg, 0, none⟩ a (a + 1) (mlC N.n (x.way.take a)) rfl hl1 HNW1.out (mlC_one _ _) (by unfold maxLen; omega) (by omega) (Nat.le_refl _) ?_; intro v9 w9 hown9 hgrow9 hne9; rw [Nat.zero_add] at hown9; obtain ⟨va9, vc9, hv9⟩ := own_shape hown9; subst hv9; have H9 : Hid (w9.ownsRow W3.heap.size 108 3 (.slice va9 a vc9) a (mlC N.n (x.way.take a)) ∧ Fr [] W3 w9 ∧ w9.ownsRow N.BN 108 3 (.slice (some ⟨wg, 0, none⟩) (a + 1) (a + 1)) (a + 1) (mlC N.n x.way)) := (by have f8 : Fr [] W3 w9 := (Fr.refl _ _).grown hgrow9 (fun k hk => by simp [Value.ownBlock] at hk); exact ⟨hown9, f8, own_fr' HO1.out f8⟩); have y93 : w9.cell? ⟨N.nb, 3, none⟩ = some (.slice (some ⟨wg, 0, none⟩) (a + 1) (a + 1)) := H9.out.2.1.gb.cell y3 (by simp); clear hown9 hgrow9 hne9))
              have HT : Hid (Net w0 (w10.setCell ⟨N.nb, 3, none⟩ (.slice va10 a vc10)) N ⟨x.S, x.ti, x.ps, x.im, x.Rs, x.way.eraseIdx a, x.q⟩) := los_rm HX.out.1 HMM.out HWl.out (by omega) H10.out.1 H10.out.2.1
              obtain ⟨x', hx'⟩ : ∃ x' : PS, x' = ⟨x.S, x.ti, x.ps, x.im, x.Rs, x.way.eraseIdx a, x.q⟩ := ⟨_, rfl⟩
              have HQ : Hid (x'.q = x.q ∧ x'.ti = x.ti) := by subst hx'; exact ⟨rfl, rfl⟩
              rw [← hx'] at HT
              clear hx'
              have hq2 : x'.q ≤ 700000 := by rw [HQ.out.1]; exact hq'
              obtain ⟨W2, hW2⟩ : ∃ W2, w10.setCell ⟨N.nb, 3, none⟩ (.slice va10 a vc10) = W2 := ⟨_, rfl⟩
              rw [hW2] at HT ⊢
              clear hW2
              go_wp2_with (first
                | (go_at_call 11; refine (based_any w0 N x' _ HT.out).mono ?_; rintro e w8 ⟨rfl, n8⟩; have H8w : Hid (Net w0 w8 N x') := n8; clear n8)
                | (go_at_call 12; refine (right_any w0 N x' _ H8w.out hq2).mono ?_; rintro e w9 ⟨rfl, n9⟩; have H9w : Hid (Net w0 w9 N x') := n9; clear n9))
              go_roundw
              case rel => exact ⟨j + 1, x', by omega, by omega, by go_num, H9w.out, by rw [HQ.out.1]; have := HX.out.2.1; omega, by rw [HQ.out.2]; have := HX.out.2.2; omega⟩
              case measure => simp [intOf]; omega
            · go_wp2_with (first
                | (go_at_call 16; refine (HP.out _).mono ?_; rintro e w' ⟨rfl, hw'⟩; have hw'' := hw'.symm; subst hw'')
                | (at_builtin; refine wpList_append_own _ rfl _ _ 29 rfl W3.heap.size 108 i0 _ 3 32 Tryz.underlying29 hi hz0 hz1 hz2 rfl (by omega) (.slice va9 a vc9) a (mlC N.n (x.way.take a)) rfl H9.out.1 ⟨wg, (a + 1) * 3, none⟩ (wl - (a + 1)) (wc - (a + 1)) (mlC N.n ((x.way.drop (a + 1)).take (wl - (a + 1)))) rfl hl2 (ml_news H9.out.2.2 (a + 1) (wl - (a + 1)) (by omega)) (mlC_one _ _) (by unfold maxLen; omega) (by omega) (by have := H9.out.2.1.size; omega) ?_; intro v10 w10 hown10 hgrow10 hne10; obtain ⟨va10, vc10, hv10⟩ := own_shape hown10; subst hv10; have H10 : Hid (w10.ownsRow N.BN 108 3 (.slice va10 (a + (wl - (a + 1))) vc10) (wl - 1) (mlC N.n (x.way.take a ++ (x.way.drop (a + 1)).take (wl - (a + 1)))) ∧ Fr [] W3 w10 ∧ ∀ k, (Value.slice va10 (a + (wl - (a + 1))) vc10).ownBlock = some k → W3.heap.size ≤ k) := ⟨own_rest hown10 hBN1 hws, H9.out.2.1.trans ((Fr.refl (Value.slice va9 a vc9).ownBlock.toList _).grown hgrow10 (fun k hk => Or.inl (by simp [hk]))) (fun k hk => Or.inr (by simp at hk; exact (own_tag H9.out.1 hk).1)), fun k hk => (own_tag hown10 hk).1⟩; have y103 : w10.cell? ⟨N.nb, 3, none⟩ = some (.slice (some ⟨wg, 0, none⟩) wl wc) := H10.out.2.1.gb.cell y3 (by simp); have u103 : w10.frozen? ⟨N.nb, 3, none⟩ = false := froz_of (HMM.out.same H10.out.2.1).blk _; clear hown10 hgrow10 hne10)
                | (at_builtin; refine wpList_append_own _ rfl _ _ 29 rfl W3.heap.size 108 i0 _ 3 32 Tryz.underlying29 hi hz0 hz1 hz2 rfl (by omega) (.slice none 0 0) 0 [] rfl (World.ownsRow_nil _ _ _ _) ⟨wg, 0, none⟩ a wc (mlC N.n (x.way.take a)) rfl hl1 HNW1.out (mlC_one _ _) (by unfold maxLen; omega) (by omega) (Nat.le_refl _) ?_; intro v9 w9 hown9 hgrow9 hne9; rw [Nat.zero_add] at hown9; obtain ⟨va9, vc9, hv9⟩ := own_shape hown9; subst hv9; have H9 : Hid (w9.ownsRow W3.heap.size 108 3 (.slice va9 a vc9) a (mlC N.n (x.way.take a)) ∧ Fr [] W3 w9 ∧ w9.ownsRow N.BN 108 3 (.slice (some ⟨wg, 0, none⟩) wl wc) wl (mlC N.n x.way)) := (by have f8 : Fr [] W3 w9 := (Fr.refl _ _).grown hgrow9 (fun k hk => by simp [Value.ownBlock] at hk); exact ⟨hown9, f8, own_fr' HO1.out f8⟩); have y93 : w9.cell? ⟨N.nb, 3, none⟩ = some (.slice (some ⟨wg, 0, none⟩) wl wc) := H9.out.2.1.gb.cell y3 (by simp); clear hown9 hgrow9 hne9))
              have HT : Hid (Net w0 (w10.setCell ⟨N.nb, 3, none⟩ (.slice va10 (a + (wl - (a + 1))) vc10)) N ⟨x.S, x.ti, x.ps, x.im, x.Rs, x.way.eraseIdx a, x.q⟩) := los_rm HX.out.1 HMM.out HWl.out (by omega) H10.out.1 H10.out.2.1
              obtain ⟨x', hx'⟩ : ∃ x' : PS, x' = ⟨x.S, x.ti, x.ps, x.im, x.Rs, x.way.eraseIdx a, x.q⟩ := ⟨_, rfl⟩
              have HQ : Hid (x'.q = x.q ∧ x'.ti = x.ti) := by subst hx'; exact ⟨rfl, rfl⟩
              rw [← hx'] at HT
              clear hx'
              have hq2 : x'.q ≤ 700000 := by rw [HQ.out.1]; exact hq'
              obtain ⟨W2, hW2⟩ : ∃ W2, w10.setCell ⟨N.nb, 3, none⟩ (.slice va10 (a + (wl - (a + 1))) vc10) = W2 := ⟨_, rfl⟩
              rw [hW2] at HT ⊢
              clear hW2
              go_wp2_with (first
                | (go_at_call 11; refine (based_any w0 N x' _ HT.out).mono ?_; rintro e w8 ⟨rfl, n8⟩; have H8w : Hid (Net w0 w8 N x') := n8; clear n8)
                | (go_at_call 12; refine (right_any w0 N x' _ H8w.out hq2).mono ?_; rintro e w9 ⟨rfl, n9⟩; have H9w : Hid (Net w0 w9 N x') := n9; clear n9))
              go_roundw
              case rel => exact ⟨j + 1, x', by omega, by omega, by go_num, H9w.out, by rw [HQ.out.1]; have := HX.out.2.1; omega, by rw [HQ.out.2]; have := HX.out.2.2; omega⟩
              case measure => simp [intOf]; omega
      · have hjj : j = 200 := by omega
        subst hjj
        go_wp2
        go_ret
        exact ⟨rfl, x, HX.out.1, by have := HX.out.2.1; omega, by have := HX.out.2.2; omega⟩
    · have hjj : j = zs.length := by omega
      subst hjj
      go_wp2
      go_ret
      exact ⟨rfl, x, HX.out.1, by have := HX.out.2.1; omega, by have := HX.out.2.2; omega⟩
end Go.Proofs.YthdhegmlknpllabGreatDoor
