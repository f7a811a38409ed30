import Derived.Test.YthdhegmlknpllaaGreatM13
namespace Go.Proofs.YthdhegmlknpllaaGreat
open Go.RowKit Go.Maps Go.MuLone
theorem RRep.put {B : Nat} {w : World} {b : Nat} {s s' : RSto} (h : RRep B w b s) (j : Nat) (v : Value) (hc : s.cells.set j v = s'.cells) (hd : s'.dat.length = 16) (hb : s'.born.length = 16) (hsh : s'.sh = s.sh) (hms : s'.ms = s.ms) (hsv : s'.sv = s.sv) (hmv : s'.mv = s.mv) : RRep B (w.setCell ⟨b, j, none⟩ v) b s' := by
 obtain ⟨a1, a2⟩ := h.apart
 refine ⟨?_, hd, hb, by rw [hsh]; exact h.wf, ?_, ?_, h.hb⟩
 · rw [heap_setCell_same w b j _ _ _ h.blk, ← hc]
   simp
 · rw [hsv, hsh]
   exact own_of_block h.sh (fun k hk => heap_setCell_other _ _ _ _ (a1 k hk).1)
 · rw [hmv, hms]
   exact own_of_block h.ms (fun k hk => heap_setCell_other _ _ _ _ (a2 k hk))
theorem cset_now (s : RSto) (z : Int) : s.cells.set 2 (.int .i64 z) = { s with now := z }.cells := by simp [RSto.cells]
theorem cset_last (s : RSto) (z : Int) : s.cells.set 3 (.int .i64 z) = { s with last := z }.cells := by simp [RSto.cells]
theorem cset_dat (s : RSto) (hd : s.dat.length = 16) (k : Nat) (hk : k < 16) (x : ByteArray) : s.cells.set (4 + k) (.string x) = { s with dat := s.dat.set k x }.cells := by
 unfold RSto.cells
 rw [List.set_append_right _ _ (by simp), show 4 + k - [Value.int .i64 s.id, .int .i64 s.blocks, .int .i64 s.now, .int .i64 s.last].length = k by simp, List.set_append_left _ _ (by simp [datC, hd]; exact hk)]
 simp [datC, List.map_set]
theorem cset_born (s : RSto) (hd : s.dat.length = 16) (hb : s.born.length = 16) (k : Nat) (hk : k < 16) (z : Int) : s.cells.set (20 + k) (.int .i64 z) = { s with born := s.born.set k z }.cells := by
 unfold RSto.cells
 rw [List.set_append_right _ _ (by simp; omega), show 20 + k - [Value.int .i64 s.id, .int .i64 s.blocks, .int .i64 s.now, .int .i64 s.last].length = 16 + k by simp; omega, List.set_append_right _ _ (by simp [datC, hd]), show 16 + k - (datC s.dat).length = k by simp [datC, hd], List.set_append_left _ _ (by simp [bornC, hb]; exact hk)]
 simp [bornC, List.map_set]
def RSto.write (s : RSto) (k : Nat) (x : ByteArray) : RSto := { s with now := s.now + 1, dat := s.dat.set k x, born := s.born.set k (s.now + 1) }
set_option maxRecDepth 100000 in
set_option maxHeartbeats 800000 in
theorem rwrite_ok (B b : Nat) (s : RSto) (k : Nat) (x : ByteArray) (w : World) (h : RRep B w b s) (hk : k < s.blocks) (hb : s.blocks ≤ 16) (hx : x.size = 4) (hn : 0 ≤ s.now ∧ s.now ≤ 1000000000000) :
  Calls Tryz.prog 26 #[.pointer (some ⟨b, 0, none⟩), .int .i64 k, .string x] w fun e w' => e = .returned (.int .i64 0) ∧ RRep B w' b (s.write k x) ∧ Fr (rfoot b s) w w' := by
 obtain ⟨c0, c1, c2, c3, c36, c37⟩ := h.cells
 have R1 : RRep B (w.setCell ⟨b, 2, none⟩ (.int .i64 (s.now + 1))) b { s with now := s.now + 1 } := h.put 2 _ (cset_now s _) h.d16 h.b16 rfl rfl rfl rfl
 have R2 : RRep B ((w.setCell ⟨b, 2, none⟩ (.int .i64 (s.now + 1))).setCell ⟨b, 4 + k, none⟩ (.string x)) b { s with now := s.now + 1, dat := s.dat.set k x } := R1.put (4 + k) _ (cset_dat { s with now := s.now + 1 } h.d16 k (by omega) x) (by simp [h.d16]) h.b16 rfl rfl rfl rfl
 have R3 : RRep B (((w.setCell ⟨b, 2, none⟩ (.int .i64 (s.now + 1))).setCell ⟨b, 4 + k, none⟩ (.string x)).setCell ⟨b, 20 + k, none⟩ (.int .i64 (s.now + 1))) b (s.write k x) := R2.put (20 + k) _ (cset_born { s with now := s.now + 1, dat := s.dat.set k x } (by simp [h.d16]) h.b16 k (by omega) (s.now + 1)) (by simp [RSto.write, h.d16]) (by simp [RSto.write, h.b16]) rfl rfl rfl rfl
 have F3 : Fr (rfoot b s) w (((w.setCell ⟨b, 2, none⟩ (.int .i64 (s.now + 1))).setCell ⟨b, 4 + k, none⟩ (.string x)).setCell ⟨b, 20 + k, none⟩ (.int .i64 (s.now + 1))) := (((Fr.refl _ _).setCell _ (Or.inl (by simp [rfoot]))).setCell _ (Or.inl (by simp [rfoot]))).setCell _ (Or.inl (by simp [rfoot]))
 have HE : Hid (RRep B (((w.setCell ⟨b, 2, none⟩ (.int .i64 (s.now + 1))).setCell ⟨b, 4 + k, none⟩ (.string x)).setCell ⟨b, 20 + k, none⟩ (.int .i64 (s.now + 1))) b (s.write k x) ∧ Fr (rfoot b s) w (((w.setCell ⟨b, 2, none⟩ (.int .i64 (s.now + 1))).setCell ⟨b, 4 + k, none⟩ (.string x)).setCell ⟨b, 20 + k, none⟩ (.int .i64 (s.now + 1)))) := ⟨R3, F3⟩
 obtain ⟨w1, hw1⟩ : ∃ w1, w.setCell ⟨b, 2, none⟩ (.int .i64 (s.now + 1)) = w1 := ⟨_, rfl⟩
 obtain ⟨w2, hw2⟩ : ∃ w2, w1.setCell ⟨b, 4 + k, none⟩ (.string x) = w2 := ⟨_, rfl⟩
 rw [hw1, hw2] at HE
 rw [hw1] at R1 R2
 rw [hw2] at R2
 have f2 := h.frozen 2
 have f4 := R1.frozen (4 + k)
 have f20 := R2.frozen (20 + k)
 have d4 : ∃ v, w1.cell? ⟨b, 4 + k, none⟩ = some v := ⟨_, R1.dat k (by omega)⟩
 obtain ⟨v4, d4⟩ := d4
 have d20 : ∃ v, w2.cell? ⟨b, 20 + k, none⟩ = some v := ⟨_, R2.bornAt k (by omega)⟩
 obtain ⟨v20, d20⟩ := d20
 have d2 : w2.cell? ⟨b, 2, none⟩ = some (.int .i64 (s.now + 1)) := R2.cells.2.2.1
 have e1 : IntKind.i64.wrap (s.now + 1) = s.now + 1 := wrap_fit ⟨by omega, by omega⟩
 obtain ⟨n, hnn⟩ : ∃ n, s.blocks = n := ⟨_, rfl⟩
 rw [hnn] at c1 hk hb
 have k0 : (k : Int) < 16 := by omega
 have k1 : ¬ ((n : Int) ≤ (k : Int)) := by omega
 have k2 : (0 : Int) ≤ (k : Int) := Int.natCast_nonneg _
 have hx4 : ((x.size : Int) != 4) = false := by rw [hx]; rfl
 clear h R1 R2 R3 F3 c0 c3 c36 c37 hnn hx
 go_enter Tryz.func26, Tryz.ntmps26
 go_wp2
 go_region
 all_goals
  go_wp2
  go_ret
  exact ⟨rfl, HE.out.1.kept0 (Fr.refl _ _).drew, HE.out.2.drew⟩
set_option maxHeartbeats 800000 in
theorem rwrite_bad (B b : Nat) (s : RSto) (k : Int) (x : ByteArray) (w : World) (h : RRep B w b s) (hk : (decide (0 ≤ k) && decide (k < s.blocks)) = false ∨ ((x.size : Int) != 4) = true) :
  Calls Tryz.prog 26 #[.pointer (some ⟨b, 0, none⟩), .int .i64 k, .string x] w fun e w' => e = .returned (.int .i64 1) ∧ w' = w := by
 obtain ⟨c0, c1, c2, c3, c36, c37⟩ := h.cells
 obtain ⟨n, hn⟩ : ∃ n, s.blocks = n := ⟨_, rfl⟩
 rw [hn] at c1 hk
 clear h c0 c2 c3 c36 c37 hn
 by_cases h0 : k < 0
 · clear hk
   go_enter Tryz.func26, Tryz.ntmps26
   go_wp2
   go_ret
   exact ⟨rfl, rfl⟩
 · by_cases h1 : (n : Int) ≤ k
   · clear hk
     go_enter Tryz.func26, Tryz.ntmps26
     go_wp2
     go_ret
     exact ⟨rfl, rfl⟩
   · have h2 : ((x.size : Int) != 4) = true := by
       rcases hk with hk | hk
       · simp at hk
         omega
       · exact hk
     clear hk
     go_enter Tryz.func26, Tryz.ntmps26
     go_wp2
     go_ret
     exact ⟨rfl, rfl⟩
def RSh.hold (x : RSh) (z : Int) : RSh := { x with holds := z }
def RSto.setH (s : RSto) (j : Nat) (x : RSh) (z : Int) : RSto := { s with sh := s.sh.set j (x.hold z) }
theorem rsh_set (x : RSh) (z : Int) : x.cells.set 2 (.int .i64 z) = (x.hold z).cells := by simp [RSh.cells, RSh.hold]
theorem rshC_set : ∀ (l : List RSh) (_ : ∀ x ∈ l, x.wf) (j : Nat) (x : RSh) (z : Int), l[j]? = some x → (rshC l).set (j * 36 + 2) (.int .i64 z) = rshC (l.set j (x.hold z))
 | [], _, _, _, _, h => by simp at h
 | y :: r, hf, 0, x, z, h => by
  simp at h
  subst h
  have hl := rsh_len (hf y (by simp))
  show (y.cells ++ rshC r).set (0 * 36 + 2) _ = (y.hold z).cells ++ rshC r
  rw [List.set_append_left _ _ (by omega), ← rsh_set]
 | y :: r, hf, j + 1, x, z, h => by
  have ih := rshC_set r (fun a ha => hf a (by simp [ha])) j x z (by simpa using h)
  have hl := rsh_len (hf y (by simp))
  show (y.cells ++ rshC r).set ((j + 1) * 36 + 2) _ = y.cells ++ rshC (r.set j (x.hold z))
  rw [List.set_append_right _ _ (by omega), show (j + 1) * 36 + 2 - y.cells.length = j * 36 + 2 by omega, ih]
theorem RRep.setH {B : Nat} {w : World} {b : Nat} {s : RSto} (h : RRep B w b s) {j : Nat} {x : RSh} (hx : s.sh[j]? = some x) (z : Int) {gg cap : Nat} (hsv : s.sv = .slice (some ⟨gg, 0, none⟩) s.sh.length cap) : RRep B (w.setCell ⟨gg, j * 36 + 2, none⟩ (.int .i64 z)) b (s.setH j x z) := by
 obtain ⟨a1, a2⟩ := h.apart
 have hj : j < s.sh.length := (List.getElem?_eq_some_iff.1 hx).1
 have an := a1 gg (by rw [hsv]; rfl)
 refine ⟨?_, h.d16, h.b16, fun y hy => ?_, ?_, ?_, h.hb⟩
 · rw [heap_setCell_other _ _ _ _ (by exact Ne.symm an.1)]; exact h.blk
 · rcases List.mem_or_eq_of_mem_set hy with hy | rfl
   · exact h.wf y hy
   · exact h.wf x (List.mem_of_getElem? hx)
 · show (w.setCell ⟨gg, j * 36 + 2, none⟩ (.int .i64 z)).ownsRow B 117 36 s.sv (s.sh.set j (x.hold z)).length (rshC (s.sh.set j (x.hold z)))
   rw [← rshC_set _ h.wf _ _ _ hx, List.length_set, hsv]
   have ho := h.sh
   rw [hsv] at ho
   exact own_set ho _ (by omega)
 · exact own_of_block h.ms (fun k hk => heap_setCell_other _ _ _ _ (fun e => by
     have e' : k = gg := e
     subst e'
     exact an.2 hk))
set_option maxRecDepth 100000 in
set_option maxHeartbeats 800000 in
theorem rhold_ok (B b : Nat) (s : RSto) (g : Int) (j : Nat) (x : RSh) (w : World) (h : RRep B w b s) (hl : s.sh.length ≤ 12) (hf : fi (fun y : RSh => y.guid == g) 0 s.sh = (j : Int)) (hx : s.sh[j]? = some x) (hh : 0 ≤ x.holds ∧ x.holds < 9) :
  Calls Tryz.prog 38 #[.pointer (some ⟨b, 0, none⟩), .int .i64 g] w fun e w' => e = .returned (.int .i64 0) ∧ RRep B w' b (s.setH j x (x.holds + 1)) ∧ Fr (rfoot b s) w w' := by
 have hj : j < s.sh.length := (List.getElem?_eq_some_iff.1 hx).1
 have HS := rshot_any B b s g w h (by omega)
 rw [hf] at HS
 obtain ⟨ao, cap, hsv⟩ := own_shape h.sh
 have ho := h.sh
 rw [hsv] at ho
 obtain ⟨gg, hgg, hcap, hcc⟩ := own_addr ho (by omega)
 subst hgg
 have c36 : w.cell? ⟨b, 36, none⟩ = some (.slice (some ⟨gg, 0, none⟩) s.sh.length cap) := by rw [← hsv]; exact h.cells.2.2.2.2.1
 have d2 : w.cell? ⟨gg, j * 36 + 2, none⟩ = some (.int .i64 x.holds) := by
  rw [h.shotC hsv j hj 2 (by omega)]
  rw [List.getElem?_eq_getElem hj] at hx
  have : s.sh[j] = x := by simpa using hx
  rw [this]
  rfl
 have z2 : w.frozen? ⟨gg, j * 36 + 2, none⟩ = false := by
  obtain ⟨_, cur, h1⟩ := own_tag h.sh (k := gg) (by rw [hsv]; rfl)
  exact froz_of h1 _
 have t1 : ¬ ((9 : Int) ≤ x.holds) := by omega
 have e1 : IntKind.i64.wrap (x.holds + 1) = x.holds + 1 := wrap_fit ⟨by omega, by omega⟩
 have HE : Hid (RRep B (w.setCell ⟨gg, j * 36 + 2, none⟩ (.int .i64 (x.holds + 1))) b (s.setH j x (x.holds + 1)) ∧ Fr (rfoot b s) w (w.setCell ⟨gg, j * 36 + 2, none⟩ (.int .i64 (x.holds + 1)))) := ⟨h.setH hx _ hsv, (Fr.refl _ _).setCell _ (Or.inl (by simp [rfoot, hsv, Value.ownBlock]))⟩
 obtain ⟨n, hn⟩ : ∃ n, s.sh.length = n := ⟨_, rfl⟩
 have hjn : (j : Int) < (n : Int) := by omega
 rw [hn] at hcap hj hl c36
 clear h hf hx ho hsv hcc hn
 go_enter Tryz.func38, Tryz.ntmps38
 go_wp2_with (first
  | (go_at_call 66; refine HS.mono ?_; rintro e w' ⟨rfl, hw'⟩; have hw' := hw'.symm; subst hw'))
 go_ret
 exact ⟨rfl, HE.out⟩
set_option maxRecDepth 100000 in
set_option maxHeartbeats 800000 in
theorem rrelease_ok (B b : Nat) (s : RSto) (g : Int) (j : Nat) (x : RSh) (w : World) (h : RRep B w b s) (hl : s.sh.length ≤ 12) (hf : fi (fun y : RSh => y.guid == g) 0 s.sh = (j : Int)) (hx : s.sh[j]? = some x) (hh : 0 < x.holds ∧ x.holds ≤ 9) :
  Calls Tryz.prog 40 #[.pointer (some ⟨b, 0, none⟩), .int .i64 g] w fun e w' => e = .returned (.int .i64 0) ∧ RRep B w' b (s.setH j x (x.holds - 1)) ∧ Fr (rfoot b s) w w' := by
 have hj : j < s.sh.length := (List.getElem?_eq_some_iff.1 hx).1
 have HS := rshot_any B b s g w h (by omega)
 rw [hf] at HS
 obtain ⟨ao, cap, hsv⟩ := own_shape h.sh
 have ho := h.sh
 rw [hsv] at ho
 obtain ⟨gg, hgg, hcap, hcc⟩ := own_addr ho (by omega)
 subst hgg
 have c36 : w.cell? ⟨b, 36, none⟩ = some (.slice (some ⟨gg, 0, none⟩) s.sh.length cap) := by rw [← hsv]; exact h.cells.2.2.2.2.1
 have d2 : w.cell? ⟨gg, j * 36 + 2, none⟩ = some (.int .i64 x.holds) := by
  rw [h.shotC hsv j hj 2 (by omega)]
  rw [List.getElem?_eq_getElem hj] at hx
  have : s.sh[j] = x := by simpa using hx
  rw [this]
  rfl
 have z2 : w.frozen? ⟨gg, j * 36 + 2, none⟩ = false := by
  obtain ⟨_, cur, h1⟩ := own_tag h.sh (k := gg) (by rw [hsv]; rfl)
  exact froz_of h1 _
 have t1 : (x.holds == 0) = false := by simp; omega
 have e1 : IntKind.i64.wrap (x.holds - 1) = x.holds - 1 := wrap_fit ⟨by omega, by omega⟩
 have HE : Hid (RRep B (w.setCell ⟨gg, j * 36 + 2, none⟩ (.int .i64 (x.holds - 1))) b (s.setH j x (x.holds - 1)) ∧ Fr (rfoot b s) w (w.setCell ⟨gg, j * 36 + 2, none⟩ (.int .i64 (x.holds - 1)))) := ⟨h.setH hx _ hsv, (Fr.refl _ _).setCell _ (Or.inl (by simp [rfoot, hsv, Value.ownBlock]))⟩
 obtain ⟨n, hn⟩ : ∃ n, s.sh.length = n := ⟨_, rfl⟩
 have hjn : (j : Int) < (n : Int) := by omega
 rw [hn] at hcap hj hl c36
 clear h hf hx ho hsv hcc hn
 go_enter Tryz.func40, Tryz.ntmps40
 go_wp2_with (first
  | (go_at_call 66; refine HS.mono ?_; rintro e w' ⟨rfl, hw'⟩; have hw' := hw'.symm; subst hw'))
 go_ret
 exact ⟨rfl, HE.out⟩
set_option maxRecDepth 100000 in
set_option maxHeartbeats 800000 in
theorem rhold_full (B b : Nat) (s : RSto) (g : Int) (j : Nat) (x : RSh) (w : World) (h : RRep B w b s) (hl : s.sh.length ≤ 12) (hf : fi (fun y : RSh => y.guid == g) 0 s.sh = (j : Int)) (hx : s.sh[j]? = some x) (hh : 9 ≤ x.holds) :
  Calls Tryz.prog 38 #[.pointer (some ⟨b, 0, none⟩), .int .i64 g] w fun e w' => e = .returned (.int .i64 5) ∧ w' = w := by
 have hj : j < s.sh.length := (List.getElem?_eq_some_iff.1 hx).1
 have HS := rshot_any B b s g w h (by omega)
 rw [hf] at HS
 obtain ⟨ao, cap, hsv⟩ := own_shape h.sh
 have ho := h.sh
 rw [hsv] at ho
 obtain ⟨gg, hgg, hcap, hcc⟩ := own_addr ho (by omega)
 subst hgg
 have c36 : w.cell? ⟨b, 36, none⟩ = some (.slice (some ⟨gg, 0, none⟩) s.sh.length cap) := by rw [← hsv]; exact h.cells.2.2.2.2.1
 have d2 : w.cell? ⟨gg, j * 36 + 2, none⟩ = some (.int .i64 x.holds) := by
  rw [h.shotC hsv j hj 2 (by omega)]
  rw [List.getElem?_eq_getElem hj] at hx
  have : s.sh[j] = x := by simpa using hx
  rw [this]
  rfl
 have t1 : (9 : Int) ≤ x.holds := by omega
 obtain ⟨n, hn⟩ : ∃ n, s.sh.length = n := ⟨_, rfl⟩
 have hjn : (j : Int) < (n : Int) := by omega
 rw [hn] at hcap hj hl c36
 clear h hf hx ho hsv hcc hn
 go_enter Tryz.func38, Tryz.ntmps38
 go_wp2_with (first
  | (go_at_call 66; refine HS.mono ?_; rintro e w' ⟨rfl, hw'⟩; have hw' := hw'.symm; subst hw'))
 go_ret
 exact ⟨rfl, rfl⟩
set_option maxRecDepth 100000 in
set_option maxHeartbeats 800000 in
theorem rrelease_bad (B b : Nat) (s : RSto) (g : Int) (j : Nat) (x : RSh) (w : World) (h : RRep B w b s) (hl : s.sh.length ≤ 12) (hf : fi (fun y : RSh => y.guid == g) 0 s.sh = (j : Int)) (hx : s.sh[j]? = some x) (hh : x.holds = 0) :
  Calls Tryz.prog 40 #[.pointer (some ⟨b, 0, none⟩), .int .i64 g] w fun e w' => e = .returned (.int .i64 1) ∧ w' = w := by
 have hj : j < s.sh.length := (List.getElem?_eq_some_iff.1 hx).1
 have HS := rshot_any B b s g w h (by omega)
 rw [hf] at HS
 obtain ⟨ao, cap, hsv⟩ := own_shape h.sh
 have ho := h.sh
 rw [hsv] at ho
 obtain ⟨gg, hgg, hcap, hcc⟩ := own_addr ho (by omega)
 subst hgg
 have c36 : w.cell? ⟨b, 36, none⟩ = some (.slice (some ⟨gg, 0, none⟩) s.sh.length cap) := by rw [← hsv]; exact h.cells.2.2.2.2.1
 have d2 : w.cell? ⟨gg, j * 36 + 2, none⟩ = some (.int .i64 x.holds) := by
  rw [h.shotC hsv j hj 2 (by omega)]
  rw [List.getElem?_eq_getElem hj] at hx
  have : s.sh[j] = x := by simpa using hx
  rw [this]
  rfl
 have t1 : (x.holds == 0) = true := by simp [hh]
 clear hh
 obtain ⟨n, hn⟩ : ∃ n, s.sh.length = n := ⟨_, rfl⟩
 have hjn : (j : Int) < (n : Int) := by omega
 rw [hn] at hcap hj hl c36
 clear h hf hx ho hsv hcc hn
 go_enter Tryz.func40, Tryz.ntmps40
 go_wp2_with (first
  | (go_at_call 66; refine HS.mono ?_; rintro e w' ⟨rfl, hw'⟩; have hw' := hw'.symm; subst hw'))
 go_ret
 exact ⟨rfl, rfl⟩
set_option maxHeartbeats 400000 in
theorem rhold_none (B b : Nat) (s : RSto) (g : Int) (w : World) (h : RRep B w b s) (hl : s.sh.length ≤ 12) (hf : fi (fun y : RSh => y.guid == g) 0 s.sh = -1) :
  Calls Tryz.prog 38 #[.pointer (some ⟨b, 0, none⟩), .int .i64 g] w fun e w' => e = .returned (.int .i64 3) ∧ w' = w := by
 have HS := rshot_any B b s g w h (by omega)
 rw [hf] at HS
 clear h hf
 go_enter Tryz.func38, Tryz.ntmps38
 go_wp2_with (first
  | (go_at_call 66; refine HS.mono ?_; rintro e w' ⟨rfl, hw'⟩; have hw' := hw'.symm; subst hw'))
 go_ret
 exact ⟨rfl, rfl⟩
set_option maxHeartbeats 400000 in
theorem rrelease_none (B b : Nat) (s : RSto) (g : Int) (w : World) (h : RRep B w b s) (hl : s.sh.length ≤ 12) (hf : fi (fun y : RSh => y.guid == g) 0 s.sh = -1) :
  Calls Tryz.prog 40 #[.pointer (some ⟨b, 0, none⟩), .int .i64 g] w fun e w' => e = .returned (.int .i64 3) ∧ w' = w := by
 have HS := rshot_any B b s g w h (by omega)
 rw [hf] at HS
 clear h hf
 go_enter Tryz.func40, Tryz.ntmps40
 go_wp2_with (first
  | (go_at_call 66; refine HS.mono ?_; rintro e w' ⟨rfl, hw'⟩; have hw' := hw'.symm; subst hw'))
 go_ret
 exact ⟨rfl, rfl⟩
theorem rsh_dat {x : RSh} (h : x.wf) (k : Nat) (hk : k < 16) : x.cells[4 + k]? = some (.string (x.dat[k]'(by rw [h.1]; exact hk))) := by
 unfold RSh.cells
 rw [List.getElem?_append_right (by simp), show 4 + k - [Value.int .i64 x.guid, .int .i64 x.time, .int .i64 x.holds, .int .i64 x.came].length = k by simp, List.getElem?_append_left (by simp [datC, h.1]; exact hk)]
 simp [datC, h.1, hk]
set_option maxRecDepth 100000 in
set_option maxHeartbeats 800000 in
theorem rat_ok (B b : Nat) (s : RSto) (g : Int) (j k : Nat) (x : RSh) (w : World) (h : RRep B w b s) (hl : s.sh.length ≤ 12) (hf : fi (fun y : RSh => y.guid == g) 0 s.sh = (j : Int)) (hx : s.sh[j]? = some x) (hk : k < s.blocks) (hb : s.blocks ≤ 16) (hw : x.wf) :
  Calls Tryz.prog 36 #[.pointer (some ⟨b, 0, none⟩), .int .i64 g, .int .i64 k] w fun e w' => e = .returned (.tuple #[.string (x.dat[k]'(by rw [hw.1]; omega)), .int .i64 0]) ∧ w' = w := by
 have hj : j < s.sh.length := (List.getElem?_eq_some_iff.1 hx).1
 have HS := rshot_any B b s g w h (by omega)
 rw [hf] at HS
 obtain ⟨ao, cap, hsv⟩ := own_shape h.sh
 have ho := h.sh
 rw [hsv] at ho
 obtain ⟨gg, hgg, hcap, hcc⟩ := own_addr ho (by omega)
 subst hgg
 have c36 : w.cell? ⟨b, 36, none⟩ = some (.slice (some ⟨gg, 0, none⟩) s.sh.length cap) := by rw [← hsv]; exact h.cells.2.2.2.2.1
 have c1 := h.cells.2.1
 have d2 : w.cell? ⟨gg, j * 36 + 4 + k, none⟩ = some (.string (x.dat[k]'(by rw [hw.1]; omega))) := by
  rw [show j * 36 + 4 + k = j * 36 + (4 + k) by omega, h.shotC hsv j hj (4 + k) (by omega)]
  rw [List.getElem?_eq_getElem hj] at hx
  have : s.sh[j] = x := by simpa using hx
  rw [this]
  exact rsh_dat hw k (by omega)
 obtain ⟨y, hy⟩ : ∃ y, (x.dat[k]'(by rw [hw.1]; omega)) = y := ⟨_, rfl⟩
 rw [hy] at d2 ⊢
 obtain ⟨n, hn⟩ : ∃ n, s.sh.length = n := ⟨_, rfl⟩
 obtain ⟨m, hm⟩ : ∃ m, s.blocks = m := ⟨_, rfl⟩
 have hjn : (j : Int) < (n : Int) := by omega
 rw [hn] at hcap hj hl c36
 rw [hm] at c1 hk hb
 have k0 : (k : Int) < 16 := by omega
 have k1 : ¬ ((m : Int) ≤ (k : Int)) := by omega
 clear h hf hx ho hsv hcc hn hy hm
 go_enter Tryz.func36, Tryz.ntmps36
 go_wp2_with (first
  | (go_at_call 66; refine HS.mono ?_; rintro e w' ⟨rfl, hw'⟩; have hw' := hw'.symm; subst hw'))
 go_ret2
 exact ⟨rfl, rfl⟩
set_option maxHeartbeats 400000 in
theorem rat_none (B b : Nat) (s : RSto) (g k : Int) (w : World) (h : RRep B w b s) (hl : s.sh.length ≤ 12) (hf : fi (fun y : RSh => y.guid == g) 0 s.sh = -1) :
  Calls Tryz.prog 36 #[.pointer (some ⟨b, 0, none⟩), .int .i64 g, .int .i64 k] w fun e w' => e = .returned (.tuple #[.string ⟨#[]⟩, .int .i64 3]) ∧ w' = w := by
 have HS := rshot_any B b s g w h (by omega)
 rw [hf] at HS
 clear h hf
 go_enter Tryz.func36, Tryz.ntmps36
 go_wp2_with (first
  | (go_at_call 66; refine HS.mono ?_; rintro e w' ⟨rfl, hw'⟩; have hw' := hw'.symm; subst hw'))
 go_ret2
 exact ⟨rfl, rfl⟩
set_option maxHeartbeats 400000 in
theorem rat_arg (B b : Nat) (s : RSto) (g k : Int) (j : Nat) (w : World) (h : RRep B w b s) (hl : s.sh.length ≤ 12) (hf : fi (fun y : RSh => y.guid == g) 0 s.sh = (j : Int)) (hk : (decide (0 ≤ k) && decide (k < s.blocks)) = false) :
  Calls Tryz.prog 36 #[.pointer (some ⟨b, 0, none⟩), .int .i64 g, .int .i64 k] w fun e w' => e = .returned (.tuple #[.string ⟨#[]⟩, .int .i64 1]) ∧ w' = w := by
 have HS := rshot_any B b s g w h (by omega)
 rw [hf] at HS
 have c1 := h.cells.2.1
 obtain ⟨n, hn⟩ : ∃ n, s.blocks = n := ⟨_, rfl⟩
 rw [hn] at c1 hk
 have j0 : ¬ ((j : Int) < 0) := by omega
 clear h hf hn
 by_cases h0 : k < 0
 · clear hk
   go_enter Tryz.func36, Tryz.ntmps36
   go_wp2_with (first
    | (go_at_call 66; refine HS.mono ?_; rintro e w' ⟨rfl, hw'⟩; have hw' := hw'.symm; subst hw'))
   go_ret2
   exact ⟨rfl, rfl⟩
 · have h1 : (n : Int) ≤ k := by
     simp at hk
     omega
   clear hk
   go_enter Tryz.func36, Tryz.ntmps36
   go_wp2_with (first
    | (go_at_call 66; refine HS.mono ?_; rintro e w' ⟨rfl, hw'⟩; have hw' := hw'.symm; subst hw'))
   go_ret2
   exact ⟨rfl, rfl⟩
theorem i1C_next (l : List (Int × Int)) (k : Nat) (h : k < l.length) : i1C ((l.take (k + 1)).map Prod.fst) = i1C ((l.take k).map Prod.fst) ++ [.int .i64 l[k].1] := by
 rw [List.take_succ_eq_append_getElem h]
 simp only [i1C, List.map_append, List.map_cons, List.map_nil]
set_option maxRecDepth 100000 in
set_option maxHeartbeats 1600000 in
theorem rmarks_any (B b : Nat) (s : RSto) (w : World) (h : RRep B w b s) (hl : s.ms.length ≤ 1000000) :
  Calls Tryz.prog 48 #[.pointer (some ⟨b, 0, none⟩)] w fun e w' => ∃ v, e = .returned v ∧ w'.ownsRow w.heap.size 3 1 v s.ms.length (i1C (s.ms.map Prod.fst)) ∧ Fr [] w w' := by
 obtain ⟨i0, hi, hz0, hz1, hz2⟩ := info_parts info3
 obtain ⟨ao, cap, hmv⟩ := own_shape h.ms
 obtain ⟨n, hn⟩ : ∃ n, s.ms.length = n := ⟨_, rfl⟩
 have HO : Hid (RRep B w b s ∧ s.mv = .slice ao n cap ∧ s.ms.length = n) := ⟨h, by rw [hmv, hn], hn⟩
 rw [hn] at hl ⊢
 clear h hmv hn
 have c37 : w.cell? ⟨b, 37, none⟩ = some (.slice ao n cap) := by rw [← HO.out.2.1]; exact HO.out.1.cells.2.2.2.2.2
 go_enter Tryz.func48, Tryz.ntmps48
 go_wp2
 go_loopw [3, 4] (fun vg i wr => ∃ k : Nat, k ≤ n ∧ i = .int .i64 k ∧ Hid (Fr [] w wr ∧ wr.ownsRow w.heap.size 3 1 vg k (i1C ((s.ms.take k).map Prod.fst)))) (fun _ i _ => n - (intOf i).toNat)
 case atStart => exact ⟨0, Nat.zero_le _, rfl, Fr.refl _ _, World.ownsRow_nil _ _ _ _⟩
 case round =>
  obtain ⟨k, hk, rfl, HK⟩ := hrel
  obtain ⟨W3, hW3⟩ : ∃ W3, W3 = wr := ⟨_, rfl⟩
  subst hW3
  clear c37
  have HR : Hid (RRep B W3 b s) := HO.out.1.kept0 HK.out.1
  have c37 : W3.cell? ⟨b, 37, none⟩ = some (.slice ao n cap) := by rw [← HO.out.2.1]; exact HR.out.cells.2.2.2.2.2
  obtain ⟨va, vc, hsh⟩ := own_shape HK.out.2
  subst hsh
  by_cases hlt : k < n
  · have ho := HR.out.ms
    rw [HO.out.2.1, HO.out.2.2] at ho
    obtain ⟨gg, hgg, hcap, hcc⟩ := own_addr ho (by omega)
    subst hgg
    have hkl : k < s.ms.length := by rw [HO.out.2.2]; exact hlt
    have d0 : W3.cell? ⟨gg, k * 2, none⟩ = some (.int .i64 s.ms[k].1) := by rw [hcc _ (by omega)]; exact (mkC_get s.ms k hkl).1
    have HX := i1C_next s.ms k hkl
    obtain ⟨g, hg⟩ : ∃ g, s.ms[k].1 = g := ⟨_, rfl⟩
    rw [hg] at d0 HX
    have HX' : Hid (i1C ((s.ms.take (k + 1)).map Prod.fst) = i1C ((s.ms.take k).map Prod.fst) ++ [.int .i64 g]) := HX
    have hltz : (k : Int) < (n : Int) := by omega
    have hsz : w.heap.size ≤ W3.heap.size := HK.out.1.size
    clear ho hcc hg HX
    go_wp2_with (first
     | (at_builtin; refine wpList_append_own _ rfl _ _ 39 rfl w.heap.size 3 i0 _ 1 8 Tryz.underlying39 hi hz0 hz1 hz2 rfl (by omega) (.slice va k vc) k (i1C ((s.ms.take k).map Prod.fst)) rfl (HK.out.2.alloc _) ⟨W3.heap.size, 0, none⟩ 1 1 [.int .i64 g] rfl (by simp) (World.news_of_block (cs := #[.int .i64 g]) (t := 3) (fr := (0, 0)) (heap_alloc_new W3 _)) (by simp [Value.oneCell']) (by unfold maxLen; omega) (by omega) (by simp; omega) ?_; intro v9 w9 hown9 hgrow9 hne9
        have H9 : Hid (Fr [] w w9 ∧ w9.ownsRow w.heap.size 3 1 v9 (k + 1) (i1C ((s.ms.take (k + 1)).map Prod.fst))) := ⟨(HK.out.1.alloc _).grown hgrow9 (fun x hx => Or.inr (HK.out.2.lt x hx).1), by rw [HX'.out]; exact hown9⟩
        clear hown9 hgrow9 hne9))
    go_roundw
    case rel => exact ⟨k + 1, by omega, by go_num, H9⟩
    case measure => simp [intOf]; omega
  · have hkk : k = n := by omega
    subst hkk
    go_wp2
    go_ret
    have := HK.out.2
    rw [List.take_of_length_le (by rw [HO.out.2.2]; exact Nat.le_refl _)] at this
    exact ⟨_, rfl, this, HK.out.1⟩
def r3 (x : RSh) : Int × Int × Int := (x.guid, x.time, x.holds)
theorem tlC_next (l : List RSh) (k : Nat) (h : k < l.length) : tlC ((l.take (k + 1)).map r3) = tlC ((l.take k).map r3) ++ [.int .i64 l[k].guid, .int .i64 l[k].time, .int .i64 l[k].holds] := by
 rw [List.take_succ_eq_append_getElem h]
 simp only [tlC, List.map_append, List.flatMap_append, List.map_cons, List.map_nil, List.flatMap_cons, List.flatMap_nil, t3c, r3, List.append_nil]
set_option maxRecDepth 100000 in
set_option maxHeartbeats 3200000 in
theorem rsnaps_any (B b : Nat) (s : RSto) (w : World) (h : RRep B w b s) (hl : s.sh.length ≤ 12) :
  Calls Tryz.prog 33 #[.pointer (some ⟨b, 0, none⟩)] w fun e w' => ∃ v, e = .returned v ∧ w'.ownsRow w.heap.size 61 3 v s.sh.length (tlC (s.sh.map r3)) ∧ Fr [] w w' := by
 obtain ⟨i0, hi, hz0, hz1, hz2⟩ := info_parts info100
 obtain ⟨ao, cap, hsv⟩ := own_shape h.sh
 obtain ⟨n, hn⟩ : ∃ n, s.sh.length = n := ⟨_, rfl⟩
 have HO : Hid (RRep B w b s ∧ s.sv = .slice ao s.sh.length cap ∧ s.sh.length = n) := ⟨h, hsv, hn⟩
 rw [hn] at hl ⊢
 have c36 : w.cell? ⟨b, 36, none⟩ = some (.slice ao n cap) := by rw [← hn, ← hsv]; exact h.cells.2.2.2.2.1
 clear h hsv hn
 go_enter Tryz.func33, Tryz.ntmps33
 go_wp2
 go_loopw [3, 4] (fun vg i wr => ∃ k : Nat, k ≤ n ∧ i = .int .i64 k ∧ Hid (Fr [] w wr ∧ wr.ownsRow w.heap.size 61 3 vg k (tlC ((s.sh.take k).map r3)))) (fun _ i _ => n - (intOf i).toNat)
 case atStart => exact ⟨0, Nat.zero_le _, rfl, Fr.refl _ _, World.ownsRow_nil _ _ _ _⟩
 case round =>
  obtain ⟨k, hk, rfl, HK⟩ := hrel
  obtain ⟨W3, hW3⟩ : ∃ W3, W3 = wr := ⟨_, rfl⟩
  subst hW3
  clear c36
  have HR : Hid (RRep B W3 b s) := HO.out.1.kept0 HK.out.1
  have c36 : W3.cell? ⟨b, 36, none⟩ = some (.slice ao n cap) := by rw [← HO.out.2.2, ← HO.out.2.1]; exact HR.out.cells.2.2.2.2.1
  obtain ⟨va, vc, hsh⟩ := own_shape HK.out.2
  subst hsh
  by_cases hlt : k < n
  · have ho := HR.out.sh
    rw [HO.out.2.1] at ho
    obtain ⟨gg, hgg, hcap, hcc⟩ := own_addr ho (by rw [HO.out.2.2]; omega)
    subst hgg
    have hkl : k < s.sh.length := by rw [HO.out.2.2]; exact hlt
    have q0 := HR.out.shotC HO.out.2.1 k hkl 0 (by omega)
    have q1 := HR.out.shotC HO.out.2.1 k hkl 1 (by omega)
    have q2 := HR.out.shotC HO.out.2.1 k hkl 2 (by omega)
    have HX := tlC_next s.sh k hkl
    obtain ⟨x, hx⟩ : ∃ x, s.sh[k] = x := ⟨_, rfl⟩
    rw [hx] at q0 q1 q2 HX
    have d0 : W3.cell? ⟨gg, k * 36, none⟩ = some (.int .i64 x.guid) := q0
    have d1 : W3.cell? ⟨gg, k * 36 + 1, none⟩ = some (.int .i64 x.time) := q1
    have d2 : W3.cell? ⟨gg, k * 36 + 2, none⟩ = some (.int .i64 x.holds) := q2
    have HX' : Hid (tlC ((s.sh.take (k + 1)).map r3) = tlC ((s.sh.take k).map r3) ++ [.int .i64 x.guid, .int .i64 x.time, .int .i64 x.holds]) := HX
    have hltz : (k : Int) < (n : Int) := by omega
    have hz' : (0 : Int) ≤ (k : Int) := Int.natCast_nonneg _
    have hsz : w.heap.size ≤ W3.heap.size := HK.out.1.size
    rw [HO.out.2.2] at hcap
    have lb := World.block_lt_of_cell? _ _ c36
    have lg := World.block_lt_of_cell? _ _ d0
    have HOw : Hid (W3.ownsRow w.heap.size 61 3 (.slice va k vc) k (tlC ((s.sh.take k).map r3))) := HK.out.2
    have hnb : (Value.slice va k vc).ownBlock ≠ some b := fun e => by
     have h1 := (HK.out.2.lt b e).1
     have h2 := (HO.out.1.lt b (by simp [rfoot])).2
     omega
    have hng : (Value.slice va k vc).ownBlock ≠ some gg := fun e => by
     have h1 := (HK.out.2.lt gg e).1
     have h2 := (HO.out.1.lt gg (by simp [rfoot, HO.out.2.1, Value.ownBlock])).2
     omega
    clear ho hcc hx HX q0 q1 q2
    go_wp2
    go_region_held3 (fun w' => w'.cell? ⟨b, 36, none⟩ = some (.slice (some ⟨gg, 0, none⟩) n cap) ∧ w'.cell? ⟨gg, k * 36, none⟩ = some (.int .i64 x.guid) ∧ w'.cell? ⟨gg, k * 36 + 1, none⟩ = some (.int .i64 x.time) ∧ w'.cell? ⟨gg, k * 36 + 2, none⟩ = some (.int .i64 x.holds))
     (first
      | go_keep
      | (go_split_ands
         refine ⟨?_, ?_, ?_, ?_⟩
         · (rw [hgrow.cell_far _ (by simp; omega) (Ne.symm hnb)]; assumption)
         · (rw [hgrow.cell_far _ (by simp; omega) (Ne.symm hng)]; assumption)
         · (rw [hgrow.cell_far _ (by simp; omega) (Ne.symm hng)]; assumption)
         · (rw [hgrow.cell_far _ (by simp; omega) (Ne.symm hng)]; assumption)))
     ((refine step_append_lies _ (by rfl) _ _ _ (by rfl) w.heap.size 61 i0 _ 3 24 Tryz.underlying62 hi hz0 hz1 hz2 rfl (by omega) (.slice va k vc) k (tlC ((s.sh.take k).map r3)) (by rfl) ((HOw.out.alloc _).drew) ⟨W3.heap.size, 0, none⟩ 1 1 [.int .i64 x.guid, .int .i64 x.time, .int .i64 x.holds] (by rfl) (by rfl) (World.news_of_block (cs := #[.int .i64 x.guid, .int .i64 x.time, .int .i64 x.holds]) (t := 61) (fr := (0, 0)) (heap_alloc_new W3 _)) (by simp [Value.oneCell']) (by omega) (by unfold maxLen; omega) (by omega) (by simp; omega) (W3.heap.size + 1) (by simp) ?_; intro g9 cap9 w9 hown9 hgrow hat hlt9))
    all_goals
     have H9 : Hid (Fr [] w w9 ∧ w9.ownsRow w.heap.size 61 3 (.slice (some ⟨g9, 0, none⟩) (k + 1) cap9) (k + 1) (tlC ((s.sh.take (k + 1)).map r3))) := ⟨(HK.out.1.alloc _).drew.grown hgrow (fun x hx => Or.inr (HOw.out.lt x hx).1), by rw [HX'.out]; exact hown9⟩
     clear hown9 hgrow hat
     go_wp2
     go_roundw
     case rel => exact ⟨k + 1, by omega, by go_num, H9⟩
     case measure => simp [intOf]; omega
  · have hkk : k = n := by omega
    subst hkk
    go_wp2
    go_ret
    have := HK.out.2
    rw [List.take_of_length_le (by rw [HO.out.2.2]; exact Nat.le_refl _)] at this
    exact ⟨_, rfl, this, HK.out.1⟩
end Go.Proofs.YthdhegmlknpllaaGreat
