/-
  The reference's Write (20), Hold (32), Release (34), At (30).
-/
import Derived.Test.YthdhegmlknpllaaGreatRst
namespace Go.Proofs.YthdhegmlknpllaaGreat
open Go.RowKit Go.Maps Go.MuLone

/-- One cell of the struct is written; the lists stay. -/
theorem RRep.put {B : Nat} {w : World} {b : Nat} {s s' : RSto} (h : RRep B w b s) (j : Nat) (v : Value) (hc : s.cells.set j v = s'.cells) (hd : s'.dat.length = 16) (hb : s'.born.length = 16) (hsh : s'.sh = s.sh) (hms : s'.ms = s.ms) (hsv : s'.sv = s.sv) (hmv : s'.mv = s.mv) : RRep B (w.setCell ⟨b, j, none⟩ v) b s' := by
  obtain ⟨a1, a2⟩ := h.apart
  refine ⟨?_, hd, hb, by rw [hsh]; exact h.wf, ?_, ?_, h.hb⟩
  · rw [heap_setCell_same w b j _ _ _ h.blk, ← hc]
    simp
  · rw [hsv, hsh]
    exact own_of_block h.sh (fun k hk => heap_setCell_other _ _ _ _ (a1 k hk).1)
  · rw [hmv, hms]
    exact own_of_block h.ms (fun k hk => heap_setCell_other _ _ _ _ (a2 k hk))

theorem cset_now (s : RSto) (z : Int) : s.cells.set 2 (.int .i64 z) = { s with now := z }.cells := by simp [RSto.cells]
theorem cset_last (s : RSto) (z : Int) : s.cells.set 3 (.int .i64 z) = { s with last := z }.cells := by simp [RSto.cells]
theorem cset_dat (s : RSto) (hd : s.dat.length = 16) (k : Nat) (hk : k < 16) (x : ByteArray) : s.cells.set (4 + k) (.string x) = { s with dat := s.dat.set k x }.cells := by
  unfold RSto.cells
  rw [List.set_append_right _ _ (by simp), show 4 + k - [Value.int .i64 s.id, .int .i64 s.blocks, .int .i64 s.now, .int .i64 s.last].length = k by simp, List.set_append_left _ _ (by simp [datC, hd]; exact hk)]
  simp [datC, List.map_set]
theorem cset_born (s : RSto) (hd : s.dat.length = 16) (hb : s.born.length = 16) (k : Nat) (hk : k < 16) (z : Int) : s.cells.set (20 + k) (.int .i64 z) = { s with born := s.born.set k z }.cells := by
  unfold RSto.cells
  rw [List.set_append_right _ _ (by simp; omega), show 20 + k - [Value.int .i64 s.id, .int .i64 s.blocks, .int .i64 s.now, .int .i64 s.last].length = 16 + k by simp; omega, List.set_append_right _ _ (by simp [datC, hd]), show 16 + k - (datC s.dat).length = k by simp [datC, hd], List.set_append_left _ _ (by simp [bornC, hb]; exact hk)]
  simp [bornC, List.map_set]

def RSto.write (s : RSto) (k : Nat) (x : ByteArray) : RSto := { s with now := s.now + 1, dat := s.dat.set k x, born := s.born.set k (s.now + 1) }

set_option maxRecDepth 100000 in
set_option maxHeartbeats 800000 in
theorem rwrite_ok (B b : Nat) (s : RSto) (k : Nat) (x : ByteArray) (w : World) (h : RRep B w b s) (hk : k < s.blocks) (hb : s.blocks ≤ 16) (hx : x.size = 4) (hn : 0 ≤ s.now ∧ s.now ≤ 1000000000000) :
    Calls Tryz.prog 26 #[.pointer (some ⟨b, 0, none⟩), .int .i64 k, .string x] w fun e w' => e = .returned (.int .i64 0) ∧ RRep B w' b (s.write k x) ∧ Fr (rfoot b s) w w' := by
  obtain ⟨c0, c1, c2, c3, c36, c37⟩ := h.cells
  have R1 : RRep B (w.setCell ⟨b, 2, none⟩ (.int .i64 (s.now + 1))) b { s with now := s.now + 1 } := h.put 2 _ (cset_now s _) h.d16 h.b16 rfl rfl rfl rfl
  have R2 : RRep B ((w.setCell ⟨b, 2, none⟩ (.int .i64 (s.now + 1))).setCell ⟨b, 4 + k, none⟩ (.string x)) b { s with now := s.now + 1, dat := s.dat.set k x } := R1.put (4 + k) _ (cset_dat { s with now := s.now + 1 } h.d16 k (by omega) x) (by simp [h.d16]) h.b16 rfl rfl rfl rfl
  have R3 : RRep B (((w.setCell ⟨b, 2, none⟩ (.int .i64 (s.now + 1))).setCell ⟨b, 4 + k, none⟩ (.string x)).setCell ⟨b, 20 + k, none⟩ (.int .i64 (s.now + 1))) b (s.write k x) := R2.put (20 + k) _ (cset_born { s with now := s.now + 1, dat := s.dat.set k x } (by simp [h.d16]) h.b16 k (by omega) (s.now + 1)) (by simp [RSto.write, h.d16]) (by simp [RSto.write, h.b16]) rfl rfl rfl rfl
  have F3 : Fr (rfoot b s) w (((w.setCell ⟨b, 2, none⟩ (.int .i64 (s.now + 1))).setCell ⟨b, 4 + k, none⟩ (.string x)).setCell ⟨b, 20 + k, none⟩ (.int .i64 (s.now + 1))) := (((Fr.refl _ _).setCell _ (Or.inl (by simp [rfoot]))).setCell _ (Or.inl (by simp [rfoot]))).setCell _ (Or.inl (by simp [rfoot]))
  have HE : Hid (RRep B (((w.setCell ⟨b, 2, none⟩ (.int .i64 (s.now + 1))).setCell ⟨b, 4 + k, none⟩ (.string x)).setCell ⟨b, 20 + k, none⟩ (.int .i64 (s.now + 1))) b (s.write k x) ∧ Fr (rfoot b s) w (((w.setCell ⟨b, 2, none⟩ (.int .i64 (s.now + 1))).setCell ⟨b, 4 + k, none⟩ (.string x)).setCell ⟨b, 20 + k, none⟩ (.int .i64 (s.now + 1)))) := ⟨R3, F3⟩
  obtain ⟨w1, hw1⟩ : ∃ w1, w.setCell ⟨b, 2, none⟩ (.int .i64 (s.now + 1)) = w1 := ⟨_, rfl⟩
  obtain ⟨w2, hw2⟩ : ∃ w2, w1.setCell ⟨b, 4 + k, none⟩ (.string x) = w2 := ⟨_, rfl⟩
  rw [hw1, hw2] at HE
  rw [hw1] at R1 R2
  rw [hw2] at R2
  have f2 := h.frozen 2
  have f4 := R1.frozen (4 + k)
  have f20 := R2.frozen (20 + k)
  have d4 : ∃ v, w1.cell? ⟨b, 4 + k, none⟩ = some v := ⟨_, R1.dat k (by omega)⟩
  obtain ⟨v4, d4⟩ := d4
  have d20 : ∃ v, w2.cell? ⟨b, 20 + k, none⟩ = some v := ⟨_, R2.bornAt k (by omega)⟩
  obtain ⟨v20, d20⟩ := d20
  have d2 : w2.cell? ⟨b, 2, none⟩ = some (.int .i64 (s.now + 1)) := R2.cells.2.2.1
  have e1 : IntKind.i64.wrap (s.now + 1) = s.now + 1 := wrap_fit ⟨by omega, by omega⟩
  obtain ⟨n, hnn⟩ : ∃ n, s.blocks = n := ⟨_, rfl⟩
  rw [hnn] at c1 hk hb
  have k0 : (k : Int) < 16 := by omega
  have k1 : ¬ ((n : Int) ≤ (k : Int)) := by omega
  have k2 : (0 : Int) ≤ (k : Int) := Int.natCast_nonneg _
  have hx4 : ((x.size : Int) != 4) = false := by rw [hx]; rfl
  clear h R1 R2 R3 F3 c0 c3 c36 c37 hnn hx
  go_enter Tryz.func26, Tryz.ntmps26
  go_wp2
  go_region
  all_goals
    go_wp2
    go_ret
    exact ⟨rfl, HE.out.1.kept0 (Fr.refl _ _).drew, HE.out.2.drew⟩

set_option maxHeartbeats 800000 in
theorem rwrite_bad (B b : Nat) (s : RSto) (k : Int) (x : ByteArray) (w : World) (h : RRep B w b s) (hk : (decide (0 ≤ k) && decide (k < s.blocks)) = false ∨ ((x.size : Int) != 4) = true) :
    Calls Tryz.prog 26 #[.pointer (some ⟨b, 0, none⟩), .int .i64 k, .string x] w fun e w' => e = .returned (.int .i64 1) ∧ w' = w := by
  obtain ⟨c0, c1, c2, c3, c36, c37⟩ := h.cells
  obtain ⟨n, hn⟩ : ∃ n, s.blocks = n := ⟨_, rfl⟩
  rw [hn] at c1 hk
  clear h c0 c2 c3 c36 c37 hn
  by_cases h0 : k < 0
  · clear hk
    go_enter Tryz.func26, Tryz.ntmps26
    go_wp2
    go_ret
    exact ⟨rfl, rfl⟩
  · by_cases h1 : (n : Int) ≤ k
    · clear hk
      go_enter Tryz.func26, Tryz.ntmps26
      go_wp2
      go_ret
      exact ⟨rfl, rfl⟩
    · have h2 : ((x.size : Int) != 4) = true := by
        rcases hk with hk | hk
        · simp at hk
          omega
        · exact hk
      clear hk
      go_enter Tryz.func26, Tryz.ntmps26
      go_wp2
      go_ret
      exact ⟨rfl, rfl⟩

/-! Hold and Release. -/
def RSh.hold (x : RSh) (z : Int) : RSh := { x with holds := z }
def RSto.setH (s : RSto) (j : Nat) (x : RSh) (z : Int) : RSto := { s with sh := s.sh.set j (x.hold z) }
theorem rsh_set (x : RSh) (z : Int) : x.cells.set 2 (.int .i64 z) = (x.hold z).cells := by simp [RSh.cells, RSh.hold]
theorem rshC_set : ∀ (l : List RSh) (_ : ∀ x ∈ l, x.wf) (j : Nat) (x : RSh) (z : Int), l[j]? = some x → (rshC l).set (j * 36 + 2) (.int .i64 z) = rshC (l.set j (x.hold z))
  | [], _, _, _, _, h => by simp at h
  | y :: r, hf, 0, x, z, h => by
    simp at h
    subst h
    have hl := rsh_len (hf y (by simp))
    show (y.cells ++ rshC r).set (0 * 36 + 2) _ = (y.hold z).cells ++ rshC r
    rw [List.set_append_left _ _ (by omega), ← rsh_set]
  | y :: r, hf, j + 1, x, z, h => by
    have ih := rshC_set r (fun a ha => hf a (by simp [ha])) j x z (by simpa using h)
    have hl := rsh_len (hf y (by simp))
    show (y.cells ++ rshC r).set ((j + 1) * 36 + 2) _ = y.cells ++ rshC (r.set j (x.hold z))
    rw [List.set_append_right _ _ (by omega), show (j + 1) * 36 + 2 - y.cells.length = j * 36 + 2 by omega, ih]

theorem RRep.setH {B : Nat} {w : World} {b : Nat} {s : RSto} (h : RRep B w b s) {j : Nat} {x : RSh} (hx : s.sh[j]? = some x) (z : Int) {gg cap : Nat} (hsv : s.sv = .slice (some ⟨gg, 0, none⟩) s.sh.length cap) : RRep B (w.setCell ⟨gg, j * 36 + 2, none⟩ (.int .i64 z)) b (s.setH j x z) := by
  obtain ⟨a1, a2⟩ := h.apart
  have hj : j < s.sh.length := (List.getElem?_eq_some_iff.1 hx).1
  have an := a1 gg (by rw [hsv]; rfl)
  refine ⟨?_, h.d16, h.b16, fun y hy => ?_, ?_, ?_, h.hb⟩
  · rw [heap_setCell_other _ _ _ _ (by exact Ne.symm an.1)]; exact h.blk
  · rcases List.mem_or_eq_of_mem_set hy with hy | rfl
    · exact h.wf y hy
    · exact h.wf x (List.mem_of_getElem? hx)
  · show (w.setCell ⟨gg, j * 36 + 2, none⟩ (.int .i64 z)).ownsRow B 117 36 s.sv (s.sh.set j (x.hold z)).length (rshC (s.sh.set j (x.hold z)))
    rw [← rshC_set _ h.wf _ _ _ hx, List.length_set, hsv]
    have ho := h.sh
    rw [hsv] at ho
    exact own_set ho _ (by omega)
  · exact own_of_block h.ms (fun k hk => heap_setCell_other _ _ _ _ (fun e => by
      have e' : k = gg := e
      subst e'
      exact an.2 hk))

set_option maxRecDepth 100000 in
set_option maxHeartbeats 800000 in
theorem rhold_ok (B b : Nat) (s : RSto) (g : Int) (j : Nat) (x : RSh) (w : World) (h : RRep B w b s) (hl : s.sh.length ≤ 12) (hf : fi (fun y : RSh => y.guid == g) 0 s.sh = (j : Int)) (hx : s.sh[j]? = some x) (hh : 0 ≤ x.holds ∧ x.holds < 9) :
    Calls Tryz.prog 38 #[.pointer (some ⟨b, 0, none⟩), .int .i64 g] w fun e w' => e = .returned (.int .i64 0) ∧ RRep B w' b (s.setH j x (x.holds + 1)) ∧ Fr (rfoot b s) w w' := by
  have hj : j < s.sh.length := (List.getElem?_eq_some_iff.1 hx).1
  have HS := rshot_any B b s g w h (by omega)
  rw [hf] at HS
  obtain ⟨ao, cap, hsv⟩ := own_shape h.sh
  have ho := h.sh
  rw [hsv] at ho
  obtain ⟨gg, hgg, hcap, hcc⟩ := own_addr ho (by omega)
  subst hgg
  have c36 : w.cell? ⟨b, 36, none⟩ = some (.slice (some ⟨gg, 0, none⟩) s.sh.length cap) := by rw [← hsv]; exact h.cells.2.2.2.2.1
  have d2 : w.cell? ⟨gg, j * 36 + 2, none⟩ = some (.int .i64 x.holds) := by
    rw [h.shotC hsv j hj 2 (by omega)]
    rw [List.getElem?_eq_getElem hj] at hx
    have : s.sh[j] = x := by simpa using hx
    rw [this]
    rfl
  have z2 : w.frozen? ⟨gg, j * 36 + 2, none⟩ = false := by
    obtain ⟨_, cur, h1⟩ := own_tag h.sh (k := gg) (by rw [hsv]; rfl)
    exact froz_of h1 _
  have t1 : ¬ ((9 : Int) ≤ x.holds) := by omega
  have e1 : IntKind.i64.wrap (x.holds + 1) = x.holds + 1 := wrap_fit ⟨by omega, by omega⟩
  have HE : Hid (RRep B (w.setCell ⟨gg, j * 36 + 2, none⟩ (.int .i64 (x.holds + 1))) b (s.setH j x (x.holds + 1)) ∧ Fr (rfoot b s) w (w.setCell ⟨gg, j * 36 + 2, none⟩ (.int .i64 (x.holds + 1)))) := ⟨h.setH hx _ hsv, (Fr.refl _ _).setCell _ (Or.inl (by simp [rfoot, hsv, Value.ownBlock]))⟩
  obtain ⟨n, hn⟩ : ∃ n, s.sh.length = n := ⟨_, rfl⟩
  have hjn : (j : Int) < (n : Int) := by omega
  rw [hn] at hcap hj hl c36
  clear h hf hx ho hsv hcc hn
  go_enter Tryz.func38, Tryz.ntmps38
  go_wp2_with (first
    | (go_at_call 66; refine HS.mono ?_; rintro e w' ⟨rfl, hw'⟩; have hw' := hw'.symm; subst hw'))
  go_ret
  exact ⟨rfl, HE.out⟩
end Go.Proofs.YthdhegmlknpllaaGreat
