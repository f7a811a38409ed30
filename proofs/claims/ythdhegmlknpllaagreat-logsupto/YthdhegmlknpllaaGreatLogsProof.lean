import Derived.Test.YthdhegmlknpllaaGreatM55
namespace Go.Proofs.YthdhegmlknpllaaGreat
open Go.RowKit Go.Maps Go.MuLone
set_option maxRecDepth 100000 in
set_option maxHeartbeats 1600000 in
theorem logs_any (w : World) (i0 i1 i2 n0 n1 n2 : Int) (so : Option Addr) (ops : List OpV) (cap : Nat) (hop : OpsB w.heap.size w so ops cap) (hid : ∀ k, k < 3 → In64 (tm [i0, i1, i2] k)) (hnm : ∀ k, k < 3 → In64 (tm [n0, n1, n2] k)) :
  Calls Tryz.prog 5 #[.agg #[.int .i64 i0, .int .i64 i1, .int .i64 i2], .agg #[.int .i64 n0, .int .i64 n1, .int .i64 n2], .slice so ops.length cap] w fun e w' => e = .returned (.bool true) ∧ Below w.heap.size w w' := by
 have HP : Hid (∀ W, Fr [] w W → Calls Tryz.prog 6 #[.agg #[.int .i64 i0, .int .i64 i1, .int .i64 i2], .agg #[.int .i64 n0, .int .i64 n1, .int .i64 n2], .slice so ops.length cap, .int .i64 15] W fun e w' => e = .returned (.bool true) ∧ Below w.heap.size w w') := fun W hW => by
  have hB := hW.below (B := w.heap.size) (Nat.le_refl _) (by simp)
  have hop' := hop.keep hB
  have hop2 : OpsB W.heap.size W so ops cap := ⟨hop'.cap, hop'.len, fun h0 => by
   obtain ⟨g, off, e, hg, hc⟩ := hop'.row h0
   exact ⟨g, off, e, Nat.lt_of_lt_of_le hg hW.size, hc⟩, fun i o ho => by
   have h8 := hop'.ok i o ho
   exact ⟨h8.at', h8.a, h8.row, h8.nil, fun k off e h0 => Nat.lt_of_lt_of_le (h8.low k off e h0) hW.size, h8.fit, h8.len⟩, hop'.ts⟩
  refine (plays_any W i0 i1 i2 n0 n1 n2 so ops cap hop2 hid hnm).mono ?_
  rintro e w' ⟨rfl, hb⟩
  exact ⟨rfl, hB.trans (hb.mono hW.size)⟩
 clear hop hid hnm
 go_enter Tryz.func5, Tryz.ntmps5
 go_wp2_with (first
  | (go_at_call 6; refine (HP.out _ (by first | exact Fr.refl _ _ | exact ((Fr.refl _ _).alloc _).alloc _ | exact (((Fr.refl _ _).alloc _).alloc _).drew | exact (((Fr.refl _ _).alloc _).alloc _).drewN _)).mono ?_; rintro e w5 ⟨rfl, l5⟩; have H5 : Hid (Below w.heap.size w w5) := l5; clear l5))
 go_ret
 exact ⟨rfl, H5.out⟩
end Go.Proofs.YthdhegmlknpllaaGreat
namespace Go.Proofs.YthdhegmlknpllaaGreat
open Go.ChangeShapes Go.WideShapes Go.ChangeAt Go.RowKit Go.Deep
set_option maxRecDepth 100000 in
theorem logs_contract (H : Type) (enc : TypeId × Value → H) (W : World) (base : Nat) (args : Array Value) (ds gs : List (DataW H)) (before : List MemPlace)
  (hval : ∀ (j : Nat) t v, Tryz.f5.params[j]? = some t → args[j]? = some v → Value.okWide Tryz.prog W .any base t v)
  (hW : DataW.Whole enc Tryz.prog Tryz.f5.params.toList Rows.logsSpec.vars false W args.toList ds gs before) (hk : Rows.uptoSmall H (ds ++ gs) = true) :
  Calls Tryz.prog 5 args W fun e W' => ∃ v, e = .returned v ∧ Rows.logsSpec.post enc Tryz.prog Tryz.f5 false true false false W args v W' := by
 have hW' := hW
 obtain ⟨p, q, hA0, hV, rfl, hfz, hnd⟩ := hW
 have hA : DataW.TrodAll enc Tryz.prog W 0 (fun _ => true) true Tryz.f5.params.toList args.toList ds p := hA0
 rw [Tryz.params5] at hA hval
 obtain ⟨v0, vs0, d0, ds0, p0, q0, hargs, rfl, rfl, h0, r0⟩ := trodAll_cons hA
 obtain ⟨v1, vs1, d1, ds1, p1, q1, rfl, rfl, rfl, h1, r1⟩ := trodAll_cons r0
 obtain ⟨v2, vs2, d2, ds2, p2, q2, rfl, rfl, rfl, h2, r2⟩ := trodAll_cons r1
 obtain ⟨rfl, rfl, rfl⟩ := trodAll_nil r2
 obtain rfl : args = #[v0, v1, v2] := by cases args; simp_all
 obtain ⟨rfl, rfl⟩ := trodVars_none hV
 obtain ⟨cs0, rfl, z0⟩ := okWide_array Tryz.underlying22 (hval 0 22 v0 rfl rfl)
 obtain ⟨cs1, rfl, z1⟩ := okWide_array Tryz.underlying22 (hval 1 22 v1 rfl rfl)
 obtain ⟨a2, len2, cap2, rfl⟩ := okWide_slice Tryz.underlying23 (hval 2 23 v2 rfl rfl)
 rw [cells22] at z0 z1
 obtain ⟨i0, i1, i2, rfl, hi⟩ := open_arr z0 h0
 obtain ⟨n0, n1, n2, rfl, hn⟩ := open_arr z1 h1
 have lt0 : ∀ x ∈ p0, x.block < W.heap.size := by obtain ⟨m, hm⟩ := h0; exact DataW.trod_lt m _ _ _ hm
 have lt1 : ∀ x ∈ p1, x.block < W.heap.size := by obtain ⟨m, hm⟩ := h1; exact DataW.trod_lt m _ _ _ hm
 have lt2 : ∀ x ∈ p2, x.block < W.heap.size := by obtain ⟨m, hm⟩ := h2; exact DataW.trod_lt m _ _ _ hm
 have hb2 : Rows.uptoBulk d2 ≤ 1048576 := by
  have h : Rows.uptoBulkAll ([d0, d1, d2] ++ []) ≤ 1048576 := of_decide_eq_true hk
  have h8 := bulk_part (d := d2) (l := [d0, d1, d2] ++ []) (by simp)
  omega
 obtain ⟨ops, hl, hop⟩ := open_script h2 hb2
 subst hl
 clear hA0 hk hfz
 refine (logs_any W i0 i1 i2 n0 n1 n2 a2 ops cap2 hop hi hn).mono fun e W' ⟨he, bel⟩ => ?_
 subst he
 exact ⟨_, rfl, _, _, _, [], _, [], hW', trodAll_mk1 (shut_bool Tryz.underlying4 _), (trodAll_cons_mk (Below.trod laidOut (by kernel_rfl) (of_decide_eq_true (by kernel_rfl)) h0 bel lt0) (trodAll_cons_mk (Below.trod laidOut (by kernel_rfl) (of_decide_eq_true (by kernel_rfl)) h1 bel lt1) (trodAll_cons_mk (Below.trod laidOut (by kernel_rfl) (of_decide_eq_true (by kernel_rfl)) h2 bel lt2) trodAll_mk0))), rfl, bel.frame _, fun h => by cases h⟩
set_option maxRecDepth 100000 in
theorem logs_lifted (os : Os) (started : os.Started) (H : Type) (enc : TypeId × Value → H) (F : Stop.Interp) :
  ReturnsInHanded {} Tryz.checked os 5 .any ((Rows.OpenSpec.upto Rows.logsSpec).pre6 enc Tryz.prog Tryz.f5 Rows.logsUptoRow.domain false) (((Rows.OpenSpec.upto Rows.logsSpec).at F).post enc Tryz.prog Tryz.f5 false true false false) := by
 refine returnsInHanded_of_cond (C := Tryz.checked) (s := Rows.OpenSpec.upto Rows.logsSpec) (k := Rows.uptoSmall) rfl own started (by kernel_rfl) Tryz.func5
  (OpenSpec.witness (enc := enc) (C := Tryz.checked) (s := Rows.OpenSpec.upto Rows.logsSpec) (k := Rows.uptoSmall) rfl false ⟨#[], #[.agg #[.int .i64 0, .int .i64 0, .int .i64 0], .agg #[.int .i64 0, .int .i64 0, .int .i64 0], .slice none 0 0], []⟩ 8 (by kernel_rfl) (by kernel_rfl) (by kernel_rfl)
   (x := ([.agg [.lit (.int .i64 0), .lit (.int .i64 0), .lit (.int .i64 0)], .agg [.lit (.int .i64 0), .lit (.int .i64 0), .lit (.int .i64 0)], .nil], [], [])) (by kernel_rfl) rfl (by kernel_rfl)) ?_
 intro W base args ds gs before hval hW _ hk _
 exact logs_contract H enc W base args ds gs before hval hW hk
theorem logs_upto : Rows.LogsUptoSaid :=
 OpenClaim.holds_of_cond 5 Tryz.f5 rfl rfl rfl rfl rfl rfl rfl ⟨rfl, rfl, rfl, rfl, rfl⟩ rfl rfl rfl rfl rfl (by kernel_rfl) Tryz.func5 (by kernel_rfl)
  (of_decide_eq_true (by kernel_rfl)) (by unfold Func.isWrapper; first | (rw [if_pos (by decide +kernel)]; kernel_rfl) | (rw [if_neg (by decide +kernel)]; exact ⟨rfl, rfl⟩))
  (fun os started H enc _ F => logs_lifted os started H enc F)
#print axioms logs_upto
end Go.Proofs.YthdhegmlknpllaaGreat
