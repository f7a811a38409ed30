import Derived.Test.YthdhegmlknpllaaGreatM27
import Derived.Test.YthdhegmlknpllaaGreatM14
import Derived.Test.YthdhegmlknpllaaGreatM17
import Derived.Test.YthdhegmlknpllaaGreatM07
import Derived.Deep.WholeRow
namespace Go.Proofs.YthdhegmlknpllaaGreat
open Go.RowKit Go.Maps Go.MuLone
attribute [-go_sem] Instr.loadAt Instr.storeAt
theorem la9 (a : Addr) (W : World) : (Instr.loadAt 9 (.pointer (some a))).run Tryz.prog W = (load a).run Tryz.prog W := by
 simp only [Instr.loadAt, Instr.sureAddr, loadVar, Sem.run_bind, Sem.run_pure, Result.andThen_ok, Tryz.isAgg9]
 rfl
theorem size117 : (Tryz.prog.info? 117).map (·.size) = some 36 := by kernel_rfl
def rflw (al : Bool) (bo : Nat → Int) (c : Int) (d : Nat → B4) (k : Nat) : List (Int × B4) := (List.range k).filterMap fun i => if al || decide (c < bo i) then some ((i : Int), d i) else none
theorem rflw_succ (al : Bool) (bo : Nat → Int) (c : Int) (d : Nat → B4) (k : Nat) : rflw al bo c d (k + 1) = rflw al bo c d k ++ (if al || decide (c < bo k) then [((k : Int), d k)] else []) := by
 unfold rflw
 rw [List.range_succ, List.filterMap_append]
 congr 1
 cases h : (al || decide (c < bo k)) <;> simp only [List.filterMap_cons, List.filterMap_nil, h, if_true, Bool.false_eq_true, if_false]
theorem rflw_len (al : Bool) (bo : Nat → Int) (c : Int) (d : Nat → B4) (k : Nat) : (rflw al bo c d k).length ≤ k := by
 have := List.length_filterMap_le (fun i => if al || decide (c < bo i) then some ((i : Int), d i) else none) (List.range k)
 simpa [rflw] using this
theorem rsh_oneCell (x : RSh) : ∀ v ∈ x.cells, v.oneCell' = true := fun u hu => by
 simp only [RSh.cells, List.mem_cons, List.mem_append, datC, bornC, List.mem_map, List.not_mem_nil, or_false] at hu
 rcases hu with (rfl | rfl | rfl | rfl) | ⟨_, _, rfl⟩ | ⟨_, _, rfl⟩ <;> rfl
theorem rsh_born {x : RSh} (h : x.wf) (k : Nat) (hk : k < 16) : x.cells[20 + k]? = some (.int .i64 (x.born[k]'(by rw [h.2]; exact hk))) := by
 unfold RSh.cells
 have e1 : [Value.int .i64 x.guid, .int .i64 x.time, .int .i64 x.holds, .int .i64 x.came].length = 4 := rfl
 have e2 : (datC x.dat).length = 16 := by simp [datC, h.1]
 rw [List.getElem?_append_right (by rw [e1]; omega), e1, List.getElem?_append_right (by rw [e2]; omega), e2, show 20 + k - 4 - 16 = k by omega]
 have : k < x.born.length := by rw [h.2]; exact hk
 simp [bornC, this]
set_option maxRecDepth 100000 in
set_option maxHeartbeats 3200000 in
theorem rsend_ok0 (B b : Nat) (s : RSto) (t : Int) (j : Nat) (x : RSh) (d : Nat → B4) (bo : Nat → Int) (w : World) (h : RRep B w b s) (hl : s.sh.length ≤ 12) (hbl : s.blocks ≤ 16) (hf : fi (fun y : RSh => y.guid == t) 0 s.sh = (j : Int)) (hx : s.sh[j]? = some x) (htb : 0 ≤ t ∧ t < 4294967296) (hxt : 0 ≤ x.time ∧ x.time < 4294967296)
  (hd : ∀ k, k < s.blocks → x.dat[k]? = some (d k).ba) (hbo : ∀ k, k < s.blocks → x.born[k]? = some (bo k)) (hc0 : 0 < x.came) :
  Calls Tryz.prog 51 #[.pointer (some ⟨b, 0, none⟩), .int .i64 0, .int .i64 t] w fun e w' => e = .returned (.tuple #[.string (streamT 0 t x.time s.blocks (rflw true bo 0 d s.blocks)), .int .i64 0]) ∧ Fr [] w w' := by
 have H1 : Hid (Calls Tryz.prog 66 #[.pointer (some ⟨b, 0, none⟩), .int .i64 t] w fun e w' => e = .returned (.int .i64 j) ∧ w' = w) := by
  have h8 := rshot_any B b s t w h (by omega)
  rw [hf] at h8
  exact h8
 have hj : j < s.sh.length := (List.getElem?_eq_some_iff.1 hx).1
 obtain ⟨ao, cap, hsv⟩ := own_shape h.sh
 have ho := h.sh
 rw [hsv] at ho
 obtain ⟨gg, e', hcp, _⟩ := own_addr ho (by omega)
 subst e'
 have hxw : x.wf := h.wf x (List.mem_of_getElem? hx)
 have HC : Hid (∀ W, Fr [] w W → W.cell? ⟨b, 36, none⟩ = some (.slice (some ⟨gg, 0, none⟩) s.sh.length cap) ∧ W.cell? ⟨b, 1, none⟩ = some (.int .i64 s.blocks) ∧ W.cell? ⟨gg, j * 36 + 3, none⟩ = some (.int .i64 x.came) ∧ (Instr.loadAt 117 (.pointer (some ⟨gg, j * 36, none⟩))).run Tryz.prog W = .ok (.agg x.cells.toArray) W) := fun W hW => by
  have h2 := h.kept0 hW
  refine ⟨by rw [← hsv]; exact h2.cells.2.2.2.2.1, h2.cells.2.1, ?_, ?_⟩
  · rw [h2.shotC hsv j hj 3 (by omega), (List.getElem?_eq_some_iff.1 hx).2]
    rfl
  · exact run_loadAt_mid (P := Tryz.prog) W gg (j * 36) 117 x.cells _ (fun k v hv => by
      have hk : k < 36 := by have := (List.getElem?_eq_some_iff.1 hv).1; rw [rsh_len hxw] at this; exact this
      rw [h2.shotC hsv j hj k hk, (List.getElem?_eq_some_iff.1 hx).2]
      exact hv) Tryz.underlying117 rfl (by rw [rsh_len hxw]; exact size117)
 have hst0 : ∀ (W : World) (z : Array Value), z.size = 36 → (Instr.storeAt 117 (.pointer (some ⟨W.heap.size, 0, none⟩)) (.agg x.cells.toArray)).run Tryz.prog (W.alloc (.cells z 117)) = .ok () (W.alloc (.cells x.cells.toArray 117)) := fun W z hz => by
  have e36 : x.cells.toArray.size = 36 := by simp [rsh_len hxw]
  exact run_storeAt_new W 117 z x.cells.toArray (by rw [e36]; exact size117) (by rw [hz, e36]) (all_oneCell_toArray (rsh_oneCell x))
 have HX : Hid (x.cells[1]? = some (.int .i64 x.time) ∧ (∀ k, k < s.blocks → x.cells[4 + k]? = some (.string (d k).ba)) ∧ (∀ k, k < s.blocks → x.cells[20 + k]? = some (.int .i64 (bo k)))) := ⟨rfl, fun k hk => by
  rw [rsh_dat hxw k (by omega)]
  have := (List.getElem?_eq_some_iff.1 (hd k hk)).2
  rw [this], fun k hk => by
  rw [rsh_born hxw k (by omega)]
  have := (List.getElem?_eq_some_iff.1 (hbo k hk)).2
  rw [this]⟩
 have HS : Hid (RRep B w b s ∧ s.sh.length ≤ 12) := ⟨h, hl⟩
 obtain ⟨X, hX⟩ : ∃ X, x.cells.toArray = X := ⟨_, rfl⟩
 obtain ⟨V, hV⟩ : ∃ V, Value.agg X = V := ⟨_, rfl⟩
 have HXB : Hid (x.cells.toArray = X) := hX
 rw [hX, hV] at HC hst0
 obtain ⟨n, hn⟩ : ∃ n, s.sh.length = n := ⟨_, rfl⟩
 obtain ⟨nb, hnb⟩ : ∃ nb, s.blocks = nb := ⟨_, rfl⟩
 obtain ⟨xc, hxc⟩ : ∃ xc, x.came = xc := ⟨_, rfl⟩
 obtain ⟨xt, hxt'⟩ : ∃ xt : Nat, x.time = (xt : Int) := ⟨x.time.toNat, by omega⟩
 rw [hn, hnb, hxc] at HC
 rw [hnb, hxt'] at HX
 rw [hnb, hxt']
 rw [hn] at hj hcp
 rw [hnb] at hbl
 rw [hxc] at hc0
 rw [hxt'] at hxt
 obtain ⟨t', ht'⟩ : ∃ t' : Nat, t = (t' : Int) := ⟨t.toNat, by omega⟩
 subst ht'
 have j0 : ¬ (j : Int) < 0 := by omega
 have j1 : (j : Int) < (n : Int) := by omega
 have t1 : ¬ (xc ≤ 0) := by omega
 have l3 := la3
 have l80 := la80
 have l9 := la9
 obtain ⟨c36, c1, c3, hld⟩ := HC.out w (Fr.refl _ _)
 clear h ho hx hf hsv hn hnb hxc hxt' hX hV hd hbo hl
 go_enter Tryz.func51, Tryz.ntmps51
 go_wp2_with (first
  | (go_at_call 66; refine H1.out.mono ?_; rintro e w' ⟨rfl, hw'⟩; have hw'' := hw'.symm; subst hw''))
 obtain ⟨W1, hW1⟩ : ∃ W1, w.alloc (.cells X 117) = W1 := ⟨_, rfl⟩
 obtain ⟨bx, hbx⟩ : ∃ bx, w.heap.size = bx := ⟨_, rfl⟩
 have HW1 : Hid (Fr [] w W1 ∧ W1.heap[bx]? = some (.cells X 117 (0, 0))) := by
  refine ⟨?_, ?_⟩
  · rw [← hW1]; exact Fr.alloc (Fr.refl _ _) _
  · rw [← hW1, ← hbx]; exact heap_alloc_new _ _
 rw [hW1, hbx]
 clear hW1 hbx hst0 hld c3 c36 c1
 go_loopw [11, 12, 13] (fun o m i wr => ∃ k : Nat, k ≤ nb ∧ i = .int .i64 k ∧ m = .int .i64 ((rflw true bo 0 d k).length : Nat) ∧ o = .string ⟨(blT (rflw true bo 0 d k)).toArray⟩ ∧ Hid (Fr [] W1 wr)) (fun _ _ i _ => nb - (intOf i).toNat)
 case atStart => exact ⟨0, Nat.zero_le _, rfl, rfl, rfl, Fr.refl _ _⟩
 case round =>
  obtain ⟨k, hk, rfl, rfl, rfl, HF⟩ := hrel
  obtain ⟨W3, hW3⟩ : ∃ W3, W3 = wr := ⟨_, rfl⟩
  subst hW3
  have F3 : Fr [] w W3 := HW1.out.1.trans HF.out (by simp)
  have b3 : W3.heap[bx]? = some (.cells X 117 (0, 0)) := by rw [HF.out.block bx (Array.getElem?_eq_some_iff.1 HW1.out.2).1 (by simp)]; exact HW1.out.2
  have HF3 : Hid (Fr [] w W3 ∧ W3.heap[bx]? = some (.cells X 117 (0, 0))) := ⟨F3, b3⟩
  have cb1 : W3.cell? ⟨b, 1, none⟩ = some (.int .i64 nb) := (HC.out W3 F3).2.1
  have hle := rflw_len true bo 0 d k
  have hsu := rflw_succ true bo 0 d k
  have hbn := blT_len (rflw true bo 0 d k)
  by_cases hlt : k < nb
  · have hltz : (k : Int) < (nb : Int) := by omega
    have k0 : (0 : Int) ≤ (k : Int) := by omega
    have k16 : (k : Int) < 16 := by omega
    have c4 : W3.cell? ⟨bx, 4 + k, none⟩ = some (.string (d k).ba) := by rw [cell_of b3, ← HXB.out, List.getElem?_toArray]; exact HX.out.2.1 k hlt
    have c20 : W3.cell? ⟨bx, 20 + k, none⟩ = some (.int .i64 (bo k)) := by rw [cell_of b3, ← HXB.out, List.getElem?_toArray]; exact HX.out.2.2 k hlt
    have HBy : Hid (∀ W, Calls Tryz.prog 77 #[.int .i64 k, .int .i64 1] W fun e w' => e = .returned (.string ⟨#[byt (k : Int)]⟩) ∧ Fr [] W w') := fun W => by
     have h8 := rbytes_any k 1 W (by omega) (by omega)
     rw [lob1] at h8
     exact h8
    obtain ⟨L, hL⟩ : ∃ L, rflw true bo 0 d k = L := ⟨_, rfl⟩
    rw [hL] at hle hsu hbn ⊢
    clear F3 b3
    have hp : IntKind.i64.wrap ((L.length : Int) + 1) = (L.length : Int) + 1 := wrap_fit ⟨by omega, by omega⟩
    have HD : Hid (∀ W, Fr [] W3 W → W.cell? ⟨bx, 4 + k, none⟩ = some (.string (d k).ba)) := fun W hW => by
     rw [cell_of (by rw [hW.block bx (Array.getElem?_eq_some_iff.1 HF3.out.2).1 (by simp)]; exact HF3.out.2), ← HXB.out, List.getElem?_toArray]
     exact HX.out.2.1 k hlt
    have HB2 : Hid (∀ W, Fr [] W3 W → Calls Tryz.prog 77 #[.int .i64 k, .int .i64 1] W fun e w' => e = .returned (.string ⟨#[byt (k : Int)]⟩) ∧ Fr [] W3 w' ∧ w'.cell? ⟨bx, 4 + k, none⟩ = some (.string (d k).ba)) := fun W hW => (HBy.out W).mono fun e w' ⟨h1, h2⟩ => ⟨h1, hW.trans h2 (by simp), HD.out w' (hW.trans h2 (by simp))⟩
    have d4 := HD.out W3 (Fr.refl _ _)
    obtain ⟨T, hT⟩ : ∃ T : ByteArray, (⟨(blT L).toArray⟩ : ByteArray) = T := ⟨_, rfl⟩
    obtain ⟨K, hK⟩ : ∃ K : ByteArray, (⟨#[byt (k : Int)]⟩ : ByteArray) = K := ⟨_, rfl⟩
    obtain ⟨D, hDD⟩ : ∃ D : ByteArray, (d k).ba = D := ⟨_, rfl⟩
    have sT : T.size = 5 * L.length := by rw [← hT]; have h9 : (blT L).length = L.length * 5 := hbn; simp [ByteArray.size]; omega
    have sK : K.size = 1 := by rw [← hK]; rfl
    have sD : D.size = 4 := by rw [← hDD]; rfl
    have n1 : ¬ 9223372036854775807 < T.size + K.size := by omega
    have n2 : ¬ 9223372036854775807 < T.size + K.size + D.size := by omega
    have HTE : Hid ((⟨(blT L).toArray⟩ : ByteArray) = T ∧ (⟨#[byt (k : Int)]⟩ : ByteArray) = K ∧ (d k).ba = D) := ⟨hT, hK, hDD⟩
    rw [hK, hDD] at HB2
    rw [hDD] at d4
    rw [hT]
    clear hT hK hDD sT sK sD hbn
    rw [show (true || decide (0 < bo k)) = true from rfl, if_pos rfl] at hsu
    go_wp2
    go_region_held3 (fun w' => w'.cell? ⟨bx, 4 + k, none⟩ = some (.string D))
     (first | exact d4 | go_keep)
     (first
      | (go_at_call 77; refine (HB2.out _ Fr.dd).mono ?_; rintro e w5 ⟨rfl, f5, d4⟩; have H5 : Hid (Fr [] W3 w5) := f5; clear f5))
    all_goals
     go_wp2
     go_roundw
     case rel => exact ⟨k + 1, by omega, by go_num, by rw [hsu, List.length_append]; push_cast; rfl, by rw [hsu, ← HTE.out.1, ← HTE.out.2.1, ← HTE.out.2.2]; exact congrArg Value.string (ofL_ext' (by simp [blT, bkT, B4.ba])), by first | exact HF.out.trans H5.out (by simp) | exact (HF.out.trans H5.out (by simp)).drew | exact (HF.out.trans H5.out (by simp)).drewN _⟩
     case measure => simp [intOf]; omega
  · have hkk : k = nb := by omega
    subst hkk
    have y1 : W3.cell? ⟨bx, 1, none⟩ = some (.int .i64 xt) := by rw [cell_of b3, ← HXB.out, List.getElem?_toArray]; exact HX.out.1
    have HKC : Hid (∀ W, Fr [] W3 W → W.cell? ⟨bx, 1, none⟩ = some (.int .i64 xt) ∧ W.cell? ⟨b, 1, none⟩ = some (.int .i64 k)) := fun W hW => ⟨by
     rw [cell_of (by rw [hW.block bx (Array.getElem?_eq_some_iff.1 HF3.out.2).1 (by simp)]; exact HF3.out.2), ← HXB.out, List.getElem?_toArray]
     exact HX.out.1, (HC.out W (HF3.out.1.trans hW (by simp))).2.1⟩
    obtain ⟨L, hL⟩ : ∃ L, rflw true bo 0 d k = L := ⟨_, rfl⟩
    rw [hL] at hle hbn ⊢
    have HL9 : Hid (rflw true bo 0 d k = L) := hL
    have by4 : ∀ (z : Nat), z < 4294967296 → ∀ W, Fr [] W3 W → Calls Tryz.prog 77 #[.int .i64 z, .int .i64 4] W fun e w' => e = .returned (.string (n4 (z : Int)).ba) ∧ Fr [] W3 w' ∧ w'.cell? ⟨bx, 1, none⟩ = some (.int .i64 xt) ∧ w'.cell? ⟨b, 1, none⟩ = some (.int .i64 k) := fun z hz W hW => by
     have h8 := rbytes_any z 4 W hz (by omega)
     rw [lob4] at h8
     exact h8.mono fun e w' ⟨h1, h2⟩ => ⟨h1, hW.trans h2 (by simp), HKC.out w' (hW.trans h2 (by simp))⟩
    have by1 : ∀ (z : Nat), z < 4294967296 → ∀ W, Fr [] W3 W → Calls Tryz.prog 77 #[.int .i64 z, .int .i64 1] W fun e w' => e = .returned (.string ⟨#[byt (z : Int)]⟩) ∧ Fr [] W3 w' ∧ w'.cell? ⟨bx, 1, none⟩ = some (.int .i64 xt) ∧ w'.cell? ⟨b, 1, none⟩ = some (.int .i64 k) := fun z hz W hW => by
     have h8 := rbytes_any z 1 W hz (by omega)
     rw [lob1] at h8
     exact h8.mono fun e w' ⟨h1, h2⟩ => ⟨h1, hW.trans h2 (by simp), HKC.out w' (hW.trans h2 (by simp))⟩
    obtain ⟨F4, hF4⟩ : ∃ F4 : ByteArray, (n4 0).ba = F4 := ⟨_, rfl⟩
    have HBf : Hid (∀ W, Fr [] W3 W → Calls Tryz.prog 77 #[.int .i64 0, .int .i64 4] W fun e w' => e = .returned (.string F4) ∧ Fr [] W3 w' ∧ w'.cell? ⟨bx, 1, none⟩ = some (.int .i64 xt) ∧ w'.cell? ⟨b, 1, none⟩ = some (.int .i64 k)) := by rw [← hF4]; exact by4 0 (by omega)
    obtain ⟨T4, hT4⟩ : ∃ T4 : ByteArray, (n4 (t' : Int)).ba = T4 := ⟨_, rfl⟩
    have HBt : Hid (∀ W, Fr [] W3 W → Calls Tryz.prog 77 #[.int .i64 t', .int .i64 4] W fun e w' => e = .returned (.string T4) ∧ Fr [] W3 w' ∧ w'.cell? ⟨bx, 1, none⟩ = some (.int .i64 xt) ∧ w'.cell? ⟨b, 1, none⟩ = some (.int .i64 k)) := by rw [← hT4]; exact by4 t' (by omega)
    obtain ⟨X4, hX4⟩ : ∃ X4 : ByteArray, (n4 (xt : Int)).ba = X4 := ⟨_, rfl⟩
    have HBx : Hid (∀ W, Fr [] W3 W → Calls Tryz.prog 77 #[.int .i64 xt, .int .i64 4] W fun e w' => e = .returned (.string X4) ∧ Fr [] W3 w' ∧ w'.cell? ⟨bx, 1, none⟩ = some (.int .i64 xt) ∧ w'.cell? ⟨b, 1, none⟩ = some (.int .i64 k)) := by rw [← hX4]; exact by4 xt (by omega)
    obtain ⟨B1, hB1⟩ : ∃ B1 : ByteArray, (⟨#[byt (k : Int)]⟩ : ByteArray) = B1 := ⟨_, rfl⟩
    have HBb : Hid (∀ W, Fr [] W3 W → Calls Tryz.prog 77 #[.int .i64 k, .int .i64 1] W fun e w' => e = .returned (.string B1) ∧ Fr [] W3 w' ∧ w'.cell? ⟨bx, 1, none⟩ = some (.int .i64 xt) ∧ w'.cell? ⟨b, 1, none⟩ = some (.int .i64 k)) := by rw [← hB1]; exact by1 k (by omega)
    obtain ⟨M1, hM1⟩ : ∃ M1 : ByteArray, (⟨#[byt (L.length : Int)]⟩ : ByteArray) = M1 := ⟨_, rfl⟩
    obtain ⟨ml, hml⟩ : ∃ ml, L.length = ml := ⟨_, rfl⟩
    have HBm : Hid (∀ W, Fr [] W3 W → Calls Tryz.prog 77 #[.int .i64 ml, .int .i64 1] W fun e w' => e = .returned (.string M1) ∧ Fr [] W3 w' ∧ w'.cell? ⟨bx, 1, none⟩ = some (.int .i64 xt) ∧ w'.cell? ⟨b, 1, none⟩ = some (.int .i64 k)) := by rw [← hM1, hml]; exact by1 ml (by omega)
    obtain ⟨Bd, hBd⟩ : ∃ Bd : ByteArray, (⟨(blT L).toArray⟩ : ByteArray) = Bd := ⟨_, rfl⟩
    have HEQ : Hid (F4 = (n4 0).ba ∧ T4 = (n4 (t' : Int)).ba ∧ X4 = (n4 (xt : Int)).ba ∧ B1 = ⟨#[byt (k : Int)]⟩ ∧ M1 = ⟨#[byt (L.length : Int)]⟩ ∧ Bd = ⟨(blT L).toArray⟩) := ⟨hF4.symm, hT4.symm, hX4.symm, hB1.symm, hM1.symm, hBd.symm⟩
    have s1 : F4.size = 4 := by rw [← hF4]; rfl
    have s2 : T4.size = 4 := by rw [← hT4]; rfl
    have s3 : X4.size = 4 := by rw [← hX4]; rfl
    have s4 : B1.size = 1 := by rw [← hB1]; rfl
    have s5 : M1.size = 1 := by rw [← hM1]; rfl
    have s6 : Bd.size ≤ 80 := by rw [← hBd]; have h9 : (blT L).length = L.length * 5 := hbn; simp [ByteArray.size]; omega
    have m1 : ¬ 9223372036854775807 < 4 + F4.size := by omega
    have m2 : ¬ 9223372036854775807 < 4 + F4.size + T4.size := by omega
    have m3 : ¬ 9223372036854775807 < 4 + F4.size + T4.size + X4.size := by omega
    have m4 : ¬ 9223372036854775807 < 4 + F4.size + T4.size + X4.size + B1.size := by omega
    have m5 : ¬ 9223372036854775807 < 4 + F4.size + T4.size + X4.size + B1.size + M1.size := by omega
    have m6 : ¬ 9223372036854775807 < 4 + F4.size + T4.size + X4.size + B1.size + M1.size + Bd.size := by omega
    have HCk : Hid (∀ W, Calls Tryz.prog 78 #[.string ((⟨#[83, 78, 68, 49]⟩ : ByteArray) ++ F4 ++ T4 ++ X4 ++ B1 ++ M1 ++ Bd)] W fun e w' => e = .returned (.string (chk ((⟨#[83, 78, 68, 49]⟩ : ByteArray) ++ F4 ++ T4 ++ X4 ++ B1 ++ M1 ++ Bd).data.toList).ba) ∧ Fr [] W w') := fun W => rcheck_any _ W (by
     simp only [ByteArray.size_append]
     have : (⟨#[83, 78, 68, 49]⟩ : ByteArray).size = 4 := rfl
     omega)
    have HST : Hid (streamT 0 t' xt k L = (⟨#[83, 78, 68, 49]⟩ : ByteArray) ++ F4 ++ T4 ++ X4 ++ B1 ++ M1 ++ Bd ++ (chk ((⟨#[83, 78, 68, 49]⟩ : ByteArray) ++ F4 ++ T4 ++ X4 ++ B1 ++ M1 ++ Bd).data.toList).ba) := by
     show _ = _
     rw [← hF4, ← hT4, ← hX4, ← hB1, ← hM1, ← hBd]
     have e9 : ((⟨#[83, 78, 68, 49]⟩ : ByteArray) ++ (n4 0).ba ++ (n4 (t' : Int)).ba ++ (n4 (xt : Int)).ba ++ (⟨#[byt (k : Int)]⟩ : ByteArray) ++ (⟨#[byt (L.length : Int)]⟩ : ByteArray) ++ (⟨(blT L).toArray⟩ : ByteArray)) = ⟨(bodyT 0 t' xt k L).toArray⟩ := ofL_ext' (by simp [bodyT, headT])
     rw [e9]
     unfold streamT
     simp
    obtain ⟨CK, hCK⟩ : ∃ CK : ByteArray, (chk ((⟨#[83, 78, 68, 49]⟩ : ByteArray) ++ F4 ++ T4 ++ X4 ++ B1 ++ M1 ++ Bd).data.toList).ba = CK := ⟨_, rfl⟩
    have s7 : CK.size = 4 := by rw [← hCK]; rfl
    have m7 : ¬ 9223372036854775807 < 4 + F4.size + T4.size + X4.size + B1.size + M1.size + Bd.size + CK.size := by omega
    rw [hCK] at HCk HST
    rw [hml, hBd]
    clear hCK s7 hF4 hT4 hX4 hB1 hM1 hBd hml s1 s2 s3 s4 s5 s6 by4 by1 hbn hsu hle hL F3 b3
    go_wp2
    go_region_held3 (fun w' => w'.cell? ⟨bx, 1, none⟩ = some (.int .i64 xt) ∧ w'.cell? ⟨b, 1, none⟩ = some (.int .i64 k))
     (first | exact ⟨y1, cb1⟩ | go_keep)
     (first
      | (go_at_call_of 77 (Value.int .i64 ml); refine (HBm.out _ (by first | exact H8.out | exact H8.out.drew | exact H8.out.drewN _)).mono ?_; rintro e w9 ⟨rfl, f9, y1, cb1⟩; have H9 : Hid (Fr [] W3 w9) := f9; clear f9)
      | (go_at_call_of 77 (Value.int .i64 k); refine (HBb.out _ (by first | exact H7.out | exact H7.out.drew | exact H7.out.drewN _)).mono ?_; rintro e w8 ⟨rfl, f8, y1, cb1⟩; have H8 : Hid (Fr [] W3 w8) := f8; clear f8)
      | (go_at_call_of 77 (Value.int .i64 xt); refine (HBx.out _ (by first | exact H6.out | exact H6.out.drew | exact H6.out.drewN _)).mono ?_; rintro e w7 ⟨rfl, f7, y1, cb1⟩; have H7 : Hid (Fr [] W3 w7) := f7; clear f7)
      | (go_at_call_of 77 (Value.int .i64 t'); refine (HBt.out _ (by first | exact H5.out | exact H5.out.drew | exact H5.out.drewN _)).mono ?_; rintro e w6 ⟨rfl, f6, y1, cb1⟩; have H6 : Hid (Fr [] W3 w6) := f6; clear f6)
      | (go_at_call_of 77 (Value.int .i64 0); refine (HBf.out _ Fr.dd).mono ?_; rintro e w5 ⟨rfl, f5, y1, cb1⟩; have H5 : Hid (Fr [] W3 w5) := f5; clear f5))
    all_goals
     go_wp2_with (first
      | (go_at_call 78; refine (HCk.out _).mono ?_; rintro e w10 ⟨rfl, f10⟩; have H10 : Hid (Fr [] W3 w10) := H9.out.trans f10 (by simp); clear f10))
     go_ret2
     exact ⟨by rw [HL9.out, HST.out]; rfl, HF3.out.1.trans H10.out (by simp)⟩
set_option maxRecDepth 100000 in
set_option maxHeartbeats 3200000 in
theorem rsend_okc (B b : Nat) (s : RSto) (t : Int) (j : Nat) (x : RSh) (d : Nat → B4) (bo : Nat → Int) (w : World) (h : RRep B w b s) (hl : s.sh.length ≤ 12) (hbl : s.blocks ≤ 16) (hf : fi (fun y : RSh => y.guid == t) 0 s.sh = (j : Int)) (hx : s.sh[j]? = some x) (htb : 0 ≤ t ∧ t < 4294967296) (hxt : 0 ≤ x.time ∧ x.time < 4294967296)
  (hd : ∀ k, k < s.blocks → x.dat[k]? = some (d k).ba) (hbo : ∀ k, k < s.blocks → x.born[k]? = some (bo k)) (f c : Int) (hf0 : f ≠ 0) (hfb : 0 ≤ f ∧ f < 4294967296) (hcm : ∀ W, RRep B W b s → Calls Tryz.prog 76 #[.pointer (some ⟨b, 0, none⟩), .int .i64 f] W fun e w' => e = .returned (.int .i64 c) ∧ Fr [] W w') (hcb : 0 ≤ c) (hc0 : c < x.came) :
  Calls Tryz.prog 51 #[.pointer (some ⟨b, 0, none⟩), .int .i64 f, .int .i64 t] w fun e w' => e = .returned (.tuple #[.string (streamT f t x.time s.blocks (rflw false bo c d s.blocks)), .int .i64 0]) ∧ Fr [] w w' := by
 have H1 : Hid (Calls Tryz.prog 66 #[.pointer (some ⟨b, 0, none⟩), .int .i64 t] w fun e w' => e = .returned (.int .i64 j) ∧ w' = w) := by
  have h8 := rshot_any B b s t w h (by omega)
  rw [hf] at h8
  exact h8
 have hj : j < s.sh.length := (List.getElem?_eq_some_iff.1 hx).1
 obtain ⟨ao, cap, hsv⟩ := own_shape h.sh
 have ho := h.sh
 rw [hsv] at ho
 obtain ⟨gg, e', hcp, _⟩ := own_addr ho (by omega)
 subst e'
 have hxw : x.wf := h.wf x (List.mem_of_getElem? hx)
 have HC : Hid (∀ W, Fr [] w W → W.cell? ⟨b, 36, none⟩ = some (.slice (some ⟨gg, 0, none⟩) s.sh.length cap) ∧ W.cell? ⟨b, 1, none⟩ = some (.int .i64 s.blocks) ∧ W.cell? ⟨gg, j * 36 + 3, none⟩ = some (.int .i64 x.came) ∧ (Instr.loadAt 117 (.pointer (some ⟨gg, j * 36, none⟩))).run Tryz.prog W = .ok (.agg x.cells.toArray) W) := fun W hW => by
  have h2 := h.kept0 hW
  refine ⟨by rw [← hsv]; exact h2.cells.2.2.2.2.1, h2.cells.2.1, ?_, ?_⟩
  · rw [h2.shotC hsv j hj 3 (by omega), (List.getElem?_eq_some_iff.1 hx).2]
    rfl
  · exact run_loadAt_mid (P := Tryz.prog) W gg (j * 36) 117 x.cells _ (fun k v hv => by
      have hk : k < 36 := by have := (List.getElem?_eq_some_iff.1 hv).1; rw [rsh_len hxw] at this; exact this
      rw [h2.shotC hsv j hj k hk, (List.getElem?_eq_some_iff.1 hx).2]
      exact hv) Tryz.underlying117 rfl (by rw [rsh_len hxw]; exact size117)
 have hst0 : ∀ (W : World) (z : Array Value), z.size = 36 → (Instr.storeAt 117 (.pointer (some ⟨W.heap.size, 0, none⟩)) (.agg x.cells.toArray)).run Tryz.prog (W.alloc (.cells z 117)) = .ok () (W.alloc (.cells x.cells.toArray 117)) := fun W z hz => by
  have e36 : x.cells.toArray.size = 36 := by simp [rsh_len hxw]
  exact run_storeAt_new W 117 z x.cells.toArray (by rw [e36]; exact size117) (by rw [hz, e36]) (all_oneCell_toArray (rsh_oneCell x))
 have HX : Hid (x.cells[1]? = some (.int .i64 x.time) ∧ (∀ k, k < s.blocks → x.cells[4 + k]? = some (.string (d k).ba)) ∧ (∀ k, k < s.blocks → x.cells[20 + k]? = some (.int .i64 (bo k)))) := ⟨rfl, fun k hk => by
  rw [rsh_dat hxw k (by omega)]
  have := (List.getElem?_eq_some_iff.1 (hd k hk)).2
  rw [this], fun k hk => by
  rw [rsh_born hxw k (by omega)]
  have := (List.getElem?_eq_some_iff.1 (hbo k hk)).2
  rw [this]⟩
 have HS : Hid (RRep B w b s ∧ s.sh.length ≤ 12) := ⟨h, hl⟩
 obtain ⟨X, hX⟩ : ∃ X, x.cells.toArray = X := ⟨_, rfl⟩
 obtain ⟨V, hV⟩ : ∃ V, Value.agg X = V := ⟨_, rfl⟩
 have HXB : Hid (x.cells.toArray = X) := hX
 rw [hX, hV] at HC hst0
 obtain ⟨n, hn⟩ : ∃ n, s.sh.length = n := ⟨_, rfl⟩
 obtain ⟨nb, hnb⟩ : ∃ nb, s.blocks = nb := ⟨_, rfl⟩
 obtain ⟨xc, hxc⟩ : ∃ xc, x.came = xc := ⟨_, rfl⟩
 obtain ⟨xt, hxt'⟩ : ∃ xt : Nat, x.time = (xt : Int) := ⟨x.time.toNat, by omega⟩
 rw [hn, hnb, hxc] at HC
 rw [hnb, hxt'] at HX
 rw [hnb, hxt']
 rw [hn] at hj hcp
 rw [hnb] at hbl
 rw [hxc] at hc0
 rw [hxt'] at hxt
 obtain ⟨t', ht'⟩ : ∃ t' : Nat, t = (t' : Int) := ⟨t.toNat, by omega⟩
 subst ht'
 obtain ⟨f', hf'⟩ : ∃ f' : Nat, f = (f' : Int) := ⟨f.toNat, by omega⟩
 subst hf'
 have j0 : ¬ (j : Int) < 0 := by omega
 have j1 : (j : Int) < (n : Int) := by omega
 have t1 : ¬ (xc ≤ c) := by omega
 have l3 := la3
 have l80 := la80
 have l9 := la9
 obtain ⟨c36, c1, c3, hld⟩ := HC.out w (Fr.refl _ _)
 clear h ho hx hf hsv hn hnb hxc hxt' hX hV hd hbo hl
 go_enter Tryz.func51, Tryz.ntmps51
 go_wp2_with (first
  | (go_at_call 76; refine (hcm _ HS.out.1).mono ?_; rintro e w2 ⟨rfl, f2⟩; have H2 : Hid (Fr [] w w2) := f2; obtain ⟨k36, k1, k3, kld⟩ := HC.out w2 f2; clear f2)
  | (go_at_call 66; refine H1.out.mono ?_; rintro e w' ⟨rfl, hw'⟩; have hw'' := hw'.symm; subst hw''))
 obtain ⟨W1, hW1⟩ : ∃ W1, w2.alloc (.cells X 117) = W1 := ⟨_, rfl⟩
 obtain ⟨bx, hbx⟩ : ∃ bx, w2.heap.size = bx := ⟨_, rfl⟩
 have HW1 : Hid (Fr [] w W1 ∧ W1.heap[bx]? = some (.cells X 117 (0, 0))) := by
  refine ⟨?_, ?_⟩
  · rw [← hW1]; exact Fr.alloc (H2.out) _
  · rw [← hW1, ← hbx]; exact heap_alloc_new _ _
 rw [hW1, hbx]
 clear hW1 hbx hst0 hld c3 c36 c1 k36 k1 k3 kld
 go_loopw [11, 12, 13] (fun o m i wr => ∃ k : Nat, k ≤ nb ∧ i = .int .i64 k ∧ m = .int .i64 ((rflw false bo c d k).length : Nat) ∧ o = .string ⟨(blT (rflw false bo c d k)).toArray⟩ ∧ Hid (Fr [] W1 wr)) (fun _ _ i _ => nb - (intOf i).toNat)
 case atStart => exact ⟨0, Nat.zero_le _, rfl, rfl, rfl, Fr.refl _ _⟩
 case round =>
  obtain ⟨k, hk, rfl, rfl, rfl, HF⟩ := hrel
  obtain ⟨W3, hW3⟩ : ∃ W3, W3 = wr := ⟨_, rfl⟩
  subst hW3
  have F3 : Fr [] w W3 := HW1.out.1.trans HF.out (by simp)
  have b3 : W3.heap[bx]? = some (.cells X 117 (0, 0)) := by rw [HF.out.block bx (Array.getElem?_eq_some_iff.1 HW1.out.2).1 (by simp)]; exact HW1.out.2
  have HF3 : Hid (Fr [] w W3 ∧ W3.heap[bx]? = some (.cells X 117 (0, 0))) := ⟨F3, b3⟩
  have cb1 : W3.cell? ⟨b, 1, none⟩ = some (.int .i64 nb) := (HC.out W3 F3).2.1
  have hle := rflw_len false bo c d k
  have hsu := rflw_succ false bo c d k
  have hbn := blT_len (rflw false bo c d k)
  by_cases hlt : k < nb
  · have hltz : (k : Int) < (nb : Int) := by omega
    have k0 : (0 : Int) ≤ (k : Int) := by omega
    have k16 : (k : Int) < 16 := by omega
    have c4 : W3.cell? ⟨bx, 4 + k, none⟩ = some (.string (d k).ba) := by rw [cell_of b3, ← HXB.out, List.getElem?_toArray]; exact HX.out.2.1 k hlt
    have c20 : W3.cell? ⟨bx, 20 + k, none⟩ = some (.int .i64 (bo k)) := by rw [cell_of b3, ← HXB.out, List.getElem?_toArray]; exact HX.out.2.2 k hlt
    have HBy : Hid (∀ W, Calls Tryz.prog 77 #[.int .i64 k, .int .i64 1] W fun e w' => e = .returned (.string ⟨#[byt (k : Int)]⟩) ∧ Fr [] W w') := fun W => by
     have h8 := rbytes_any k 1 W (by omega) (by omega)
     rw [lob1] at h8
     exact h8
    obtain ⟨L, hL⟩ : ∃ L, rflw false bo c d k = L := ⟨_, rfl⟩
    rw [hL] at hle hsu hbn ⊢
    clear F3 b3
    have hp : IntKind.i64.wrap ((L.length : Int) + 1) = (L.length : Int) + 1 := wrap_fit ⟨by omega, by omega⟩
    have HD : Hid (∀ W, Fr [] W3 W → W.cell? ⟨bx, 4 + k, none⟩ = some (.string (d k).ba)) := fun W hW => by
     rw [cell_of (by rw [hW.block bx (Array.getElem?_eq_some_iff.1 HF3.out.2).1 (by simp)]; exact HF3.out.2), ← HXB.out, List.getElem?_toArray]
     exact HX.out.2.1 k hlt
    have HB2 : Hid (∀ W, Fr [] W3 W → Calls Tryz.prog 77 #[.int .i64 k, .int .i64 1] W fun e w' => e = .returned (.string ⟨#[byt (k : Int)]⟩) ∧ Fr [] W3 w' ∧ w'.cell? ⟨bx, 4 + k, none⟩ = some (.string (d k).ba)) := fun W hW => (HBy.out W).mono fun e w' ⟨h1, h2⟩ => ⟨h1, hW.trans h2 (by simp), HD.out w' (hW.trans h2 (by simp))⟩
    have d4 := HD.out W3 (Fr.refl _ _)
    obtain ⟨T, hT⟩ : ∃ T : ByteArray, (⟨(blT L).toArray⟩ : ByteArray) = T := ⟨_, rfl⟩
    obtain ⟨K, hK⟩ : ∃ K : ByteArray, (⟨#[byt (k : Int)]⟩ : ByteArray) = K := ⟨_, rfl⟩
    obtain ⟨D, hDD⟩ : ∃ D : ByteArray, (d k).ba = D := ⟨_, rfl⟩
    have sT : T.size = 5 * L.length := by rw [← hT]; have h9 : (blT L).length = L.length * 5 := hbn; simp [ByteArray.size]; omega
    have sK : K.size = 1 := by rw [← hK]; rfl
    have sD : D.size = 4 := by rw [← hDD]; rfl
    have n1 : ¬ 9223372036854775807 < T.size + K.size := by omega
    have n2 : ¬ 9223372036854775807 < T.size + K.size + D.size := by omega
    have HTE : Hid ((⟨(blT L).toArray⟩ : ByteArray) = T ∧ (⟨#[byt (k : Int)]⟩ : ByteArray) = K ∧ (d k).ba = D) := ⟨hT, hK, hDD⟩
    rw [hK, hDD] at HB2
    rw [hDD] at d4
    rw [hT]
    clear hT hK hDD sT sK sD hbn
    by_cases hq : c < bo k
    · rw [show (false || decide (c < bo k)) = true by simp [hq], if_pos rfl] at hsu
      have t3 : ((f' : Int) == 0) = false := by simpa using hf0
      go_wp2
      go_region_held3 (fun w' => w'.cell? ⟨bx, 4 + k, none⟩ = some (.string D))
       (first | exact d4 | go_keep)
       (first
        | (go_at_call 77; refine (HB2.out _ Fr.dd).mono ?_; rintro e w5 ⟨rfl, f5, d4⟩; have H5 : Hid (Fr [] W3 w5) := f5; clear f5))
      all_goals
       go_wp2
       go_roundw
       case rel => exact ⟨k + 1, by omega, by go_num, by rw [hsu, List.length_append]; push_cast; rfl, by rw [hsu, ← HTE.out.1, ← HTE.out.2.1, ← HTE.out.2.2]; exact congrArg Value.string (ofL_ext' (by simp [blT, bkT, B4.ba])), by first | exact HF.out.trans H5.out (by simp) | exact (HF.out.trans H5.out (by simp)).drew | exact (HF.out.trans H5.out (by simp)).drewN _⟩
       case measure => simp [intOf]; omega
    · rw [show (false || decide (c < bo k)) = false by simpa using hq, if_neg (by simp)] at hsu
      have t3 : ((f' : Int) == 0) = false := by simpa using hf0
      have hq2 : ¬ c < bo k := hq
      go_wp2
      go_roundw
      case rel => exact ⟨k + 1, by omega, by go_num, by rw [hsu, List.append_nil], by rw [hsu, List.append_nil, HTE.out.1], HF.out⟩
      case measure => simp [intOf]; omega
  · have hkk : k = nb := by omega
    subst hkk
    have y1 : W3.cell? ⟨bx, 1, none⟩ = some (.int .i64 xt) := by rw [cell_of b3, ← HXB.out, List.getElem?_toArray]; exact HX.out.1
    have HKC : Hid (∀ W, Fr [] W3 W → W.cell? ⟨bx, 1, none⟩ = some (.int .i64 xt) ∧ W.cell? ⟨b, 1, none⟩ = some (.int .i64 k)) := fun W hW => ⟨by
     rw [cell_of (by rw [hW.block bx (Array.getElem?_eq_some_iff.1 HF3.out.2).1 (by simp)]; exact HF3.out.2), ← HXB.out, List.getElem?_toArray]
     exact HX.out.1, (HC.out W (HF3.out.1.trans hW (by simp))).2.1⟩
    obtain ⟨L, hL⟩ : ∃ L, rflw false bo c d k = L := ⟨_, rfl⟩
    rw [hL] at hle hbn ⊢
    have HL9 : Hid (rflw false bo c d k = L) := hL
    have by4 : ∀ (z : Nat), z < 4294967296 → ∀ W, Fr [] W3 W → Calls Tryz.prog 77 #[.int .i64 z, .int .i64 4] W fun e w' => e = .returned (.string (n4 (z : Int)).ba) ∧ Fr [] W3 w' ∧ w'.cell? ⟨bx, 1, none⟩ = some (.int .i64 xt) ∧ w'.cell? ⟨b, 1, none⟩ = some (.int .i64 k) := fun z hz W hW => by
     have h8 := rbytes_any z 4 W hz (by omega)
     rw [lob4] at h8
     exact h8.mono fun e w' ⟨h1, h2⟩ => ⟨h1, hW.trans h2 (by simp), HKC.out w' (hW.trans h2 (by simp))⟩
    have by1 : ∀ (z : Nat), z < 4294967296 → ∀ W, Fr [] W3 W → Calls Tryz.prog 77 #[.int .i64 z, .int .i64 1] W fun e w' => e = .returned (.string ⟨#[byt (z : Int)]⟩) ∧ Fr [] W3 w' ∧ w'.cell? ⟨bx, 1, none⟩ = some (.int .i64 xt) ∧ w'.cell? ⟨b, 1, none⟩ = some (.int .i64 k) := fun z hz W hW => by
     have h8 := rbytes_any z 1 W hz (by omega)
     rw [lob1] at h8
     exact h8.mono fun e w' ⟨h1, h2⟩ => ⟨h1, hW.trans h2 (by simp), HKC.out w' (hW.trans h2 (by simp))⟩
    obtain ⟨F4, hF4⟩ : ∃ F4 : ByteArray, (n4 (f' : Int)).ba = F4 := ⟨_, rfl⟩
    have HBf : Hid (∀ W, Fr [] W3 W → Calls Tryz.prog 77 #[.int .i64 f', .int .i64 4] W fun e w' => e = .returned (.string F4) ∧ Fr [] W3 w' ∧ w'.cell? ⟨bx, 1, none⟩ = some (.int .i64 xt) ∧ w'.cell? ⟨b, 1, none⟩ = some (.int .i64 k)) := by rw [← hF4]; exact by4 f' (by omega)
    obtain ⟨T4, hT4⟩ : ∃ T4 : ByteArray, (n4 (t' : Int)).ba = T4 := ⟨_, rfl⟩
    have HBt : Hid (∀ W, Fr [] W3 W → Calls Tryz.prog 77 #[.int .i64 t', .int .i64 4] W fun e w' => e = .returned (.string T4) ∧ Fr [] W3 w' ∧ w'.cell? ⟨bx, 1, none⟩ = some (.int .i64 xt) ∧ w'.cell? ⟨b, 1, none⟩ = some (.int .i64 k)) := by rw [← hT4]; exact by4 t' (by omega)
    obtain ⟨X4, hX4⟩ : ∃ X4 : ByteArray, (n4 (xt : Int)).ba = X4 := ⟨_, rfl⟩
    have HBx : Hid (∀ W, Fr [] W3 W → Calls Tryz.prog 77 #[.int .i64 xt, .int .i64 4] W fun e w' => e = .returned (.string X4) ∧ Fr [] W3 w' ∧ w'.cell? ⟨bx, 1, none⟩ = some (.int .i64 xt) ∧ w'.cell? ⟨b, 1, none⟩ = some (.int .i64 k)) := by rw [← hX4]; exact by4 xt (by omega)
    obtain ⟨B1, hB1⟩ : ∃ B1 : ByteArray, (⟨#[byt (k : Int)]⟩ : ByteArray) = B1 := ⟨_, rfl⟩
    have HBb : Hid (∀ W, Fr [] W3 W → Calls Tryz.prog 77 #[.int .i64 k, .int .i64 1] W fun e w' => e = .returned (.string B1) ∧ Fr [] W3 w' ∧ w'.cell? ⟨bx, 1, none⟩ = some (.int .i64 xt) ∧ w'.cell? ⟨b, 1, none⟩ = some (.int .i64 k)) := by rw [← hB1]; exact by1 k (by omega)
    obtain ⟨M1, hM1⟩ : ∃ M1 : ByteArray, (⟨#[byt (L.length : Int)]⟩ : ByteArray) = M1 := ⟨_, rfl⟩
    obtain ⟨ml, hml⟩ : ∃ ml, L.length = ml := ⟨_, rfl⟩
    have HBm : Hid (∀ W, Fr [] W3 W → Calls Tryz.prog 77 #[.int .i64 ml, .int .i64 1] W fun e w' => e = .returned (.string M1) ∧ Fr [] W3 w' ∧ w'.cell? ⟨bx, 1, none⟩ = some (.int .i64 xt) ∧ w'.cell? ⟨b, 1, none⟩ = some (.int .i64 k)) := by rw [← hM1, hml]; exact by1 ml (by omega)
    obtain ⟨Bd, hBd⟩ : ∃ Bd : ByteArray, (⟨(blT L).toArray⟩ : ByteArray) = Bd := ⟨_, rfl⟩
    have HEQ : Hid (F4 = (n4 (f' : Int)).ba ∧ T4 = (n4 (t' : Int)).ba ∧ X4 = (n4 (xt : Int)).ba ∧ B1 = ⟨#[byt (k : Int)]⟩ ∧ M1 = ⟨#[byt (L.length : Int)]⟩ ∧ Bd = ⟨(blT L).toArray⟩) := ⟨hF4.symm, hT4.symm, hX4.symm, hB1.symm, hM1.symm, hBd.symm⟩
    have s1 : F4.size = 4 := by rw [← hF4]; rfl
    have s2 : T4.size = 4 := by rw [← hT4]; rfl
    have s3 : X4.size = 4 := by rw [← hX4]; rfl
    have s4 : B1.size = 1 := by rw [← hB1]; rfl
    have s5 : M1.size = 1 := by rw [← hM1]; rfl
    have s6 : Bd.size ≤ 80 := by rw [← hBd]; have h9 : (blT L).length = L.length * 5 := hbn; simp [ByteArray.size]; omega
    have m1 : ¬ 9223372036854775807 < 4 + F4.size := by omega
    have m2 : ¬ 9223372036854775807 < 4 + F4.size + T4.size := by omega
    have m3 : ¬ 9223372036854775807 < 4 + F4.size + T4.size + X4.size := by omega
    have m4 : ¬ 9223372036854775807 < 4 + F4.size + T4.size + X4.size + B1.size := by omega
    have m5 : ¬ 9223372036854775807 < 4 + F4.size + T4.size + X4.size + B1.size + M1.size := by omega
    have m6 : ¬ 9223372036854775807 < 4 + F4.size + T4.size + X4.size + B1.size + M1.size + Bd.size := by omega
    have HCk : Hid (∀ W, Calls Tryz.prog 78 #[.string ((⟨#[83, 78, 68, 49]⟩ : ByteArray) ++ F4 ++ T4 ++ X4 ++ B1 ++ M1 ++ Bd)] W fun e w' => e = .returned (.string (chk ((⟨#[83, 78, 68, 49]⟩ : ByteArray) ++ F4 ++ T4 ++ X4 ++ B1 ++ M1 ++ Bd).data.toList).ba) ∧ Fr [] W w') := fun W => rcheck_any _ W (by
     simp only [ByteArray.size_append]
     have : (⟨#[83, 78, 68, 49]⟩ : ByteArray).size = 4 := rfl
     omega)
    have HST : Hid (streamT (f' : Int) t' xt k L = (⟨#[83, 78, 68, 49]⟩ : ByteArray) ++ F4 ++ T4 ++ X4 ++ B1 ++ M1 ++ Bd ++ (chk ((⟨#[83, 78, 68, 49]⟩ : ByteArray) ++ F4 ++ T4 ++ X4 ++ B1 ++ M1 ++ Bd).data.toList).ba) := by
     show _ = _
     rw [← hF4, ← hT4, ← hX4, ← hB1, ← hM1, ← hBd]
     have e9 : ((⟨#[83, 78, 68, 49]⟩ : ByteArray) ++ (n4 (f' : Int)).ba ++ (n4 (t' : Int)).ba ++ (n4 (xt : Int)).ba ++ (⟨#[byt (k : Int)]⟩ : ByteArray) ++ (⟨#[byt (L.length : Int)]⟩ : ByteArray) ++ (⟨(blT L).toArray⟩ : ByteArray)) = ⟨(bodyT (f' : Int) t' xt k L).toArray⟩ := ofL_ext' (by simp [bodyT, headT])
     rw [e9]
     unfold streamT
     simp
    obtain ⟨CK, hCK⟩ : ∃ CK : ByteArray, (chk ((⟨#[83, 78, 68, 49]⟩ : ByteArray) ++ F4 ++ T4 ++ X4 ++ B1 ++ M1 ++ Bd).data.toList).ba = CK := ⟨_, rfl⟩
    have s7 : CK.size = 4 := by rw [← hCK]; rfl
    have m7 : ¬ 9223372036854775807 < 4 + F4.size + T4.size + X4.size + B1.size + M1.size + Bd.size + CK.size := by omega
    rw [hCK] at HCk HST
    rw [hml, hBd]
    clear hCK s7 hF4 hT4 hX4 hB1 hM1 hBd hml s1 s2 s3 s4 s5 s6 by4 by1 hbn hsu hle hL F3 b3
    go_wp2
    go_region_held3 (fun w' => w'.cell? ⟨bx, 1, none⟩ = some (.int .i64 xt) ∧ w'.cell? ⟨b, 1, none⟩ = some (.int .i64 k))
     (first | exact ⟨y1, cb1⟩ | go_keep)
     (first
      | (go_at_call_of 77 (Value.int .i64 ml); refine (HBm.out _ (by first | exact H8.out | exact H8.out.drew | exact H8.out.drewN _)).mono ?_; rintro e w9 ⟨rfl, f9, y1, cb1⟩; have H9 : Hid (Fr [] W3 w9) := f9; clear f9)
      | (go_at_call_of 77 (Value.int .i64 k); refine (HBb.out _ (by first | exact H7.out | exact H7.out.drew | exact H7.out.drewN _)).mono ?_; rintro e w8 ⟨rfl, f8, y1, cb1⟩; have H8 : Hid (Fr [] W3 w8) := f8; clear f8)
      | (go_at_call_of 77 (Value.int .i64 xt); refine (HBx.out _ (by first | exact H6.out | exact H6.out.drew | exact H6.out.drewN _)).mono ?_; rintro e w7 ⟨rfl, f7, y1, cb1⟩; have H7 : Hid (Fr [] W3 w7) := f7; clear f7)
      | (go_at_call_of 77 (Value.int .i64 t'); refine (HBt.out _ (by first | exact H5.out | exact H5.out.drew | exact H5.out.drewN _)).mono ?_; rintro e w6 ⟨rfl, f6, y1, cb1⟩; have H6 : Hid (Fr [] W3 w6) := f6; clear f6)
      | (go_at_call_of 77 (Value.int .i64 f'); refine (HBf.out _ Fr.dd).mono ?_; rintro e w5 ⟨rfl, f5, y1, cb1⟩; have H5 : Hid (Fr [] W3 w5) := f5; clear f5))
    all_goals
     go_wp2_with (first
      | (go_at_call 78; refine (HCk.out _).mono ?_; rintro e w10 ⟨rfl, f10⟩; have H10 : Hid (Fr [] W3 w10) := H9.out.trans f10 (by simp); clear f10))
     go_ret2
     exact ⟨by rw [HL9.out, HST.out]; rfl, HF3.out.1.trans H10.out (by simp)⟩
end Go.Proofs.YthdhegmlknpllaaGreat
