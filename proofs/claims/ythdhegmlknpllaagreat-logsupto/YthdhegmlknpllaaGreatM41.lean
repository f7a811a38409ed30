import Derived.Test.YthdhegmlknpllaaGreatM40
import Derived.Deep.QuietTactic
import Derived.BigQuiet
import Derived.Test.YthdhegmlknpllaaGreatM38
import Derived.Laws.CopyOwn
namespace Go.Proofs.YthdhegmlknpllaaGreat
open Go.RowKit Go.Maps Go.MuLone
section
variable {B : Nat} {w w' : World} {wb : Nat} {sv tv : Value} {T : List ByteArray} {kv mv : Value} {D : List Nat} {K M : List (Nat × Nat × Nat)}
theorem kC_get (K : List (Nat × Nat × Nat)) (i : Nat) (h : i < K.length) : (kC K)[i]? = some (.slice (some ⟨K[i].1, 0, none⟩) K[i].2.1 K[i].2.2) := by
 unfold kC
 rw [List.getElem?_map, List.getElem?_eq_getElem h]
 rfl
theorem WM.kcell {kg L kc : Nat} (h : WM B w wb sv tv T (.slice (some ⟨kg, 0, none⟩) L kc) mv D K M) (hL : K.length = L) {i : Nat} (hi : i < L) : w.cell? ⟨kg, i, none⟩ = some (.slice (some ⟨(K[i]'(by omega)).1, 0, none⟩) (K[i]'(by omega)).2.1 (K[i]'(by omega)).2.2) := by
 have ho := h.ko
 rw [hL] at ho
 obtain ⟨g', e', _, hc⟩ := own_addr ho (by omega)
 have : g' = kg := by simpa using e'.symm
 subst this
 rw [hc i (by omega)]
 exact kC_get K i (by omega)
theorem WM.mcell {kg L kc : Nat} (h : WM B w wb sv tv T kv (.slice (some ⟨kg, 0, none⟩) L kc) D K M) (hL : M.length = L) {i : Nat} (hi : i < L) : w.cell? ⟨kg, i, none⟩ = some (.slice (some ⟨(M[i]'(by omega)).1, 0, none⟩) (M[i]'(by omega)).2.1 (M[i]'(by omega)).2.2) := by
 have ho := h.mo
 rw [hL] at ho
 obtain ⟨g', e', _, hc⟩ := own_addr ho (by omega)
 have : g' = kg := by simpa using e'.symm
 subst this
 rw [hc i (by omega)]
 exact kC_get M i (by omega)
theorem KR.c3 {g n : Nat} {z : Int} (h : KR 61 w g n (m3 z)) {j : Nat} (hj : j < n) : w.cell? ⟨g, j * 3, none⟩ = some (.int .i64 z) ∧ w.cell? ⟨g, j * 3 + 1, none⟩ = some (.int .i64 0) ∧ w.cell? ⟨g, j * 3 + 2, none⟩ = some (.int .i64 0) := by
 obtain ⟨cur, h1, _, h3⟩ := h
 refine ⟨?_, ?_, ?_⟩ <;> rw [cell_of h1]
 · exact h3 j hj 0 (by simp [m3])
 · exact h3 j hj 1 (by simp [m3])
 · exact h3 j hj 2 (by simp [m3])
theorem KR.c1 {g n : Nat} {z : Int} (h : KR 3 w g n (m1 z)) {j : Nat} (hj : j < n) : w.cell? ⟨g, j, none⟩ = some (.int .i64 z) := by
 obtain ⟨cur, h1, _, h3⟩ := h
 rw [cell_of h1]
 have := h3 j hj 0 (by simp [m1])
 simpa [m1] using this
end
set_option maxRecDepth 100000 in
set_option maxHeartbeats 3200000 in
theorem looks_any (B wb : Nat) (sv tv : Value) (T : List ByteArray) (kv mv : Value) (D : List Nat) (K M : List (Nat × Nat × Nat)) (w : World) (h : WM B w wb sv tv T kv mv D K M) (hK : K.length ≤ 9000000) (hM : M.length ≤ 9000000) (bK : ∀ x ∈ K, x.2.1 ≤ 16) (bM : ∀ x ∈ M, x.2.1 ≤ 16) :
  Calls Tryz.prog 11 #[.pointer (some ⟨wb, 0, none⟩)] w fun e w' => e = .returned (.bool true) ∧ Fr [] w w' := by
 obtain ⟨ka, kc, hkv⟩ := own_shape h.ko
 obtain ⟨ma, mc, hmv⟩ := own_shape h.mo
 subst hkv
 subst hmv
 obtain ⟨L, hL⟩ : ∃ L, K.length = L := ⟨_, rfl⟩
 obtain ⟨N, hN⟩ : ∃ N, M.length = N := ⟨_, rfl⟩
 rw [hL, hN] at h
 have HW : Hid (∀ W, Fr [] w W → WM B W wb sv tv T (.slice ka L kc) (.slice ma N mc) D K M) := fun W hW => h.same hW
 have HL : Hid (K.length = L ∧ M.length = N ∧ (∀ x ∈ K, x.2.1 ≤ 16) ∧ (∀ x ∈ M, x.2.1 ≤ 16)) := ⟨hL, hN, bK, bM⟩
 have hm : Tryz.prog.eqGuardType Tryz.prog.depth 61 = false := by kernel_rfl
 rw [hL] at hK
 rw [hN] at hM
 clear h hL hN bK bM
 go_enter Tryz.func11, Tryz.ntmps11
 go_wp2
 go_loopw [3] (fun i wr => ∃ k : Nat, k ≤ L ∧ i = .int .i64 k ∧ Hid (Fr [] w wr)) (fun i _ => L - (intOf i).toNat)
 case atStart => exact ⟨0, Nat.zero_le _, rfl, Fr.refl _ _⟩
 case round =>
  obtain ⟨i, hi, rfl, HI⟩ := hrel
  obtain ⟨W3, hW3⟩ : ∃ W3, W3 = wr := ⟨_, rfl⟩
  subst hW3
  have x2 := (HW.out W3 HI.out).cells.2.1
  by_cases hlt : i < L
  · have hltz : (i : Int) < (L : Int) := by omega
    have i0 : (0 : Int) ≤ (i : Int) := by omega
    have M3 := HW.out W3 HI.out
    have ko := M3.ko
    rw [HL.out.1] at ko
    obtain ⟨kg, hkg, hkcap, _⟩ := own_addr ko (by omega)
    have hiK : i < K.length := by rw [HL.out.1]; exact hlt
    obtain ⟨⟨g, n, c⟩, hx⟩ : ∃ x, K[i] = x := ⟨_, rfl⟩
    have hn16 : n ≤ 16 := by have := HL.out.2.2.1 K[i] (List.getElem_mem hiK); rw [hx] at this; exact this
    obtain ⟨z, hzz⟩ : ∃ z : Int, -1 - (i : Int) / 4 * 4 = z := ⟨_, rfl⟩
    have hz : zOf i = z := by unfold zOf; omega
    have HX : Hid (∀ W, Fr [] w W → W.cell? ⟨wb, 2, none⟩ = some (.slice (some ⟨kg, 0, none⟩) L kc) ∧ W.cell? ⟨kg, i, none⟩ = some (.slice (some ⟨g, 0, none⟩) n c) ∧ ∀ j, j < n → W.cell? ⟨g, j * 3, none⟩ = some (.int .i64 z) ∧ W.cell? ⟨g, j * 3 + 1, none⟩ = some (.int .i64 0) ∧ W.cell? ⟨g, j * 3 + 2, none⟩ = some (.int .i64 0)) := fun W hW => by
     have MW := HW.out W hW
     rw [hkg] at MW
     have h8 := MW.kcell HL.out.1 hlt
     have h9 := (MW.kk i K[i] (List.getElem?_eq_getElem hiK)).2
     rw [hx] at h8 h9
     rw [hz] at h9
     exact ⟨MW.cells.2.1, h8, fun j hj => h9.c3 hj⟩
    subst hkg
    clear M3 ko hz hx hiK
    go_wp2
    obtain ⟨W4, hW4⟩ : ∃ W4, W3.alloc (.cells #[.int .i64 z, .int .i64 0, .int .i64 0] 61) = W4 := ⟨_, rfl⟩
    obtain ⟨mb, hmb⟩ : ∃ mb, W3.heap.size = mb := ⟨_, rfl⟩
    have H4 : Hid (Fr [] w W4 ∧ W4.heap[mb]? = some (.cells #[.int .i64 z, .int .i64 0, .int .i64 0] 61 (0, 0))) := ⟨by rw [← hW4]; exact HI.out.alloc _, by rw [← hW4, ← hmb]; exact heap_alloc_new W3 _⟩
    rw [hW4, hmb]
    clear hW4 hmb hzz x2 HI
    have hne := fun W => neq61 W z 0 0
    go_loopw [5] (fun i wr => ∃ k : Nat, k ≤ n ∧ i = .int .i64 k ∧ Hid (Fr [] W4 wr)) (fun i _ => n - (intOf i).toNat)
    case atStart => exact ⟨0, Nat.zero_le _, rfl, Fr.refl _ _⟩
    case round =>
     obtain ⟨k, hk, rfl, HK⟩ := hrel
     obtain ⟨W5, hW5⟩ : ∃ W5, W5 = wr := ⟨_, rfl⟩
     subst hW5
     have F5 : Fr [] w W5 := H4.out.1.trans HK.out (by simp)
     obtain ⟨y2, yi, yc⟩ := HX.out W5 F5
     by_cases hlt2 : k < n
     · have hltz2 : (k : Int) < (n : Int) := by omega
       have k0 : (0 : Int) ≤ (k : Int) := by omega
       obtain ⟨c0, c1, c2⟩ := yc k hlt2
       have bm : W5.heap[mb]? = some (.cells #[.int .i64 z, .int .i64 0, .int .i64 0] 61 (0, 0)) := by rw [HK.out.block mb (Array.getElem?_eq_some_iff.1 H4.out.2).1 (by simp)]; exact H4.out.2
       have d1 : ∀ q, (W5.drewN q).cell? ⟨wb, 2, none⟩ = some (.slice (some ⟨kg, 0, none⟩) L kc) := fun q => y2
       have d2 : ∀ q, (W5.drewN q).cell? ⟨kg, i, none⟩ = some (.slice (some ⟨g, 0, none⟩) n c) := fun q => yi
       have d3 : ∀ q, (W5.drewN q).cell? ⟨g, k * 3, none⟩ = some (.int .i64 z) := fun q => c0
       have d4 : ∀ q, (W5.drewN q).cell? ⟨g, k * 3 + 1, none⟩ = some (.int .i64 0) := fun q => c1
       have d5 : ∀ q, (W5.drewN q).cell? ⟨g, k * 3 + 2, none⟩ = some (.int .i64 0) := fun q => c2
       have d6 : ∀ q, (W5.drewN q).cell? ⟨mb, 0, none⟩ = some (.int .i64 z) := fun q => by show W5.cell? _ = _; rw [cell_of bm]; rfl
       have d7 : ∀ q, (W5.drewN q).cell? ⟨mb, 1, none⟩ = some (.int .i64 0) := fun q => by show W5.cell? _ = _; rw [cell_of bm]; rfl
       have d8 : ∀ q, (W5.drewN q).cell? ⟨mb, 2, none⟩ = some (.int .i64 0) := fun q => by show W5.cell? _ = _; rw [cell_of bm]; rfl
       clear yc c0 c1 c2 bm F5
       go_wp2
       go_quiet (fail)
       go_wp2
       go_roundw
       case rel => exact ⟨k + 1, by omega, by go_num, HK.out.drewQ _⟩
       case measure => simp [intOf]; omega
     · have hkk : k = n := by omega
       subst hkk
       have HF : Hid (Fr [] w W5) := F5
       clear yc F5
       go_wp2
       go_roundw
       case rel => exact ⟨i + 1, by omega, by go_num, HF⟩
       case measure => simp [intOf]; omega
  · have hii : i = L := by omega
    subst hii
    go_wp2
    clear x2
    go_loopw [6] (fun i wr => ∃ k : Nat, k ≤ N ∧ i = .int .i64 k ∧ Hid (Fr [] w wr)) (fun i _ => N - (intOf i).toNat)
    case atStart => exact ⟨0, Nat.zero_le _, rfl, HI⟩
    case round =>
     obtain ⟨j, hj, rfl, HJ⟩ := hrel
     obtain ⟨W6, hW6⟩ : ∃ W6, W6 = wr := ⟨_, rfl⟩
     subst hW6
     clear HI
     have x3 := (HW.out W6 HJ.out).cells.2.2.1
     by_cases hltN : j < N
     · have hltz : (j : Int) < (N : Int) := by omega
       have j0 : (0 : Int) ≤ (j : Int) := by omega
       have M6 := HW.out W6 HJ.out
       have mo := M6.mo
       rw [HL.out.2.1] at mo
       obtain ⟨mg, hmg, hmcap, _⟩ := own_addr mo (by omega)
       have hjM : j < M.length := by rw [HL.out.2.1]; exact hltN
       obtain ⟨⟨g, n, c⟩, hx⟩ : ∃ x, M[j] = x := ⟨_, rfl⟩
       have hn16 : n ≤ 16 := by have := HL.out.2.2.2 M[j] (List.getElem_mem hjM); rw [hx] at this; exact this
       obtain ⟨z, hzz⟩ : ∃ z : Int, -1 - (j : Int) / 4 * 4 = z := ⟨_, rfl⟩
       have hz : zOf j = z := by unfold zOf; omega
       have HX : Hid (∀ W, Fr [] w W → W.cell? ⟨wb, 3, none⟩ = some (.slice (some ⟨mg, 0, none⟩) N mc) ∧ W.cell? ⟨mg, j, none⟩ = some (.slice (some ⟨g, 0, none⟩) n c) ∧ ∀ k, k < n → W.cell? ⟨g, k, none⟩ = some (.int .i64 z)) := fun W hW => by
        have MW := HW.out W hW
        rw [hmg] at MW
        have h8 := MW.mcell HL.out.2.1 hltN
        have h9 := (MW.mi j M[j] (List.getElem?_eq_getElem hjM)).2
        rw [hx] at h8 h9
        rw [hz] at h9
        exact ⟨MW.cells.2.2.1, h8, fun k hk => h9.c1 hk⟩
       subst hmg
       clear M6 mo hz hx hjM
       go_wp2
       go_loopw [7] (fun i wr => ∃ k : Nat, k ≤ n ∧ i = .int .i64 k ∧ Hid (Fr [] w wr)) (fun i _ => n - (intOf i).toNat)
       case atStart => exact ⟨0, Nat.zero_le _, rfl, HJ⟩
       case round =>
        obtain ⟨k, hk, rfl, HK⟩ := hrel
        obtain ⟨W5, hW5⟩ : ∃ W5, W5 = wr := ⟨_, rfl⟩
        subst hW5
        clear x3
        obtain ⟨y2, yi, yc⟩ := HX.out W5 HK.out
        by_cases hlt2 : k < n
        · have hltz2 : (k : Int) < (n : Int) := by omega
          have k0 : (0 : Int) ≤ (k : Int) := by omega
          have c0 := yc k hlt2
          clear yc
          go_wp2
          go_roundw
          case rel => exact ⟨k + 1, by omega, by go_num, by first | exact HK | exact HK.out.drewQ _⟩
          case measure => simp [intOf]; omega
        · have hkk : k = n := by omega
          subst hkk
          clear yc
          go_wp2
          go_roundw
          case rel => exact ⟨j + 1, by omega, by go_num, HK⟩
          case measure => simp [intOf]; omega
     · have hjj : j = N := by omega
       subst hjj
       go_wp2
       go_ret
       exact ⟨rfl, HJ.out⟩
section
variable {O : Obj} {B : Nat} {w w1 w2 W : World} {db b rb : Nat} {s s' : Sto} {r r' : RSto} {q : Nat}
theorem SD.pair2 (h : SD O B w db b rb s r) (rp : Rep B w1 b 0 s') (f1 : Fr (foot b s) w w1) (g1 : ∀ k ∈ foot b s', k ∈ foot b s ∨ w.heap.size ≤ k) {f : Nat} {args : Array Value} {v : Value}
  (hr : ∀ W, RRep B W rb r → Fr (foot b s) w W → Calls Tryz.prog f args W fun e w2 => e = .returned v ∧ ∃ r', RRep B w2 rb r' ∧ Fr (rfoot rb r) W w2 ∧ (∀ k ∈ rfoot rb r', k ∈ rfoot rb r ∨ W.heap.size ≤ k) ∧ Sim s' r' (q + 1) ∧ LStep s.log r s'.log r') :
  (w1.heap[db]? = some O ∧ Fr (sft b rb s r) w w1) ∧ ∀ W, Fr [] w1 W → Calls Tryz.prog f args W fun e w2 => e = .returned v ∧ SN O B w w2 db b rb s r q := by
 have hd1 : db ∉ foot b s := fun hm => h.ndb (List.mem_append_left _ hm)
 have b1 : w1.heap[db]? = some O := by rw [f1.block db (Array.getElem?_eq_some_iff.1 h.blk).1 hd1]; exact h.blk
 refine ⟨⟨b1, f1.mono (fun k hk => List.mem_append_left _ hk)⟩, fun W hW => ?_⟩
 have rr1 : RRep B w1 rb r := h.rrep.kept f1 (fun k hk hm => h.dis k hm hk)
 have rrW := rr1.kept0 hW
 refine (hr W rrW (f1.trans hW (by simp))).mono ?_
 rintro e w2 ⟨he, r', rr', f2, g2, m, ls⟩
 have dis1 : ∀ k ∈ foot b s', k ∉ rfoot rb r := fun k hk hm => by
  rcases g1 k hk with h1 | h1
  · exact h.dis k h1 hm
  · have := (h.rrep.lt k hm).2
    omega
 have rpW := rp.kept0 hW
 have rp2 : Rep B w2 b 0 s' := rpW.kept f2 dis1
 have bW : W.heap[db]? = some O := by rw [hW.block db (Array.getElem?_eq_some_iff.1 b1).1 (by simp)]; exact b1
 have b2 : w2.heap[db]? = some O := by
  rw [f2.block db (Array.getElem?_eq_some_iff.1 bW).1 (fun hm => h.ndb (List.mem_append_right _ hm))]
  exact bW
 have hf : Fr (sft b rb s r) w w2 := ((f1.mono (fun k hk => List.mem_append_left _ hk)).trans hW (by simp)).trans f2 (fun k hk => Or.inl (List.mem_append_right _ hk))
 have hg : ∀ k ∈ sft b rb s' r', k ∈ sft b rb s r ∨ w.heap.size ≤ k := fun k hk => by
  rcases List.mem_append.1 hk with hk | hk
  · rcases g1 k hk with h1 | h1
    · exact Or.inl (List.mem_append_left _ h1)
    · exact Or.inr h1
  · rcases g2 k hk with h1 | h1
    · exact Or.inl (List.mem_append_right _ h1)
    · exact Or.inr (Nat.le_trans (Nat.le_trans f1.size hW.size) h1)
 refine ⟨he, s', r', ⟨b2, rp2, rr', fun k hk hm => ?_, h.hdb, fun hm => ?_⟩, m, hf, hg, ls⟩
 · rcases g2 k hm with h1 | h1
   · exact dis1 k hk h1
   · have := (rpW.lt k hk).2
     omega
 · rcases hg db hm with h1 | h1
   · exact h.ndb h1
   · have := (Array.getElem?_eq_some_iff.1 h.blk).1
     omega
theorem Sim.lsD (m : Sim s r q) {zs : List Int} (d : DesPost B b s zs w w1 s') (hfi : ∀ k, k < zs.length → fineAt s.ss zs k = true) (hno : ∀ k, k < zs.length → heldAt s.ss zs k = false) (sv : Value) : LStep s.log r s'.log (r.setS (rleft r.sh zs) sv) := by
 have hl := d.log
 by_cases h0 : zs = []
 · subst h0
   rw [if_pos rfl, List.append_nil] at hl
   refine Or.inl ⟨hl, ?_⟩
   rw [rleft_nil]
   exact ⟨sv, r.mv, rfl⟩
 · rw [if_neg h0] at hl
   rw [hl]
   have hzl := fine_len hfi
   have hl12 := m.len.1
   refine LStep.by (r_destroy zs sv h0 (by omega) (fun z hz => ?_) (fun k hk => by rw [m.fine]; exact hfi k hk) (fun k hk => by rw [m.held]; exact hno k hk))
   obtain ⟨k, hk, rfl⟩ := List.getElem_of_mem hz
   have h1 := hfi k hk
   unfold fineAt at h1
   rw [Bool.and_eq_true] at h1
   have h2 := h1.1
   rw [List.any_eq_true] at h2
   obtain ⟨y, hy, he⟩ := h2
   have he' : y.guid = zs[k] := by rw [tm_get zs k hk] at he; simpa [isG] using he
   have := m.gr _ (mem_gls.2 (Or.inl ⟨y, hy, he'⟩))
   omega
theorem p_destroy (h : SD O B w db b rb s r) (m : Sim s r q) (a1 a2 : Option Addr) (p1 p2 : Nat) (zs : List Int) (r1 : RowG w a1 zs p1) (r2 : RowG w a2 zs p2) (n1 : ∀ k off, a1 = some ⟨k, off, none⟩ → 0 < zs.length → k ∉ sft b rb s r) (n2 : ∀ k off, a2 = some ⟨k, off, none⟩ → 0 < zs.length → k ∉ sft b rb s r) (hb : ∀ i, i < zs.length → In64 (tm zs i)) (hz : zs.length ≤ 2000000) (hq : q ≤ 2000000) :
  Calls Tryz.prog 67 #[.pointer (some ⟨b, 0, none⟩), .slice a1 zs.length p1] w (PC fC O B w db b rb s r q 68 #[.pointer (some ⟨rb, 0, none⟩), .slice a2 zs.length p2]) := by
 have hl12 := m.len
 have e2 := m.glen
 refine (destroy_any B b s a1 zs p1 w h.rep hl12.1 m.bl.2.2 m.nd r1 hz hb (fun k off e h0 hm => n1 k off e h0 (List.mem_append_left _ hm)) (by have := m.lg; omega)).mono ?_
 rintro e w1 ⟨f1, hc⟩
 have hr0 : ∀ W, RRep B W rb r → Fr (foot b s) w W → _ := fun W hW hf => rdestroy_any B rb r a2 zs p2 W hW (by omega) m.rnd (r2.fr hf (fun k off e h0 hm => n2 k off e h0 (List.mem_append_left _ hm))) hz (fun k off e h0 hm => n2 k off e h0 (List.mem_append_right _ hm))
 have fine0 : ∀ k, fineAt (r.sh.map RSh.sn) zs k = fineAt s.ss zs k := m.fine zs
 have held0 : ∀ k, heldAt (r.sh.map RSh.sn) zs k = heldAt s.ss zs k := m.held zs
 rcases hc with ⟨rfl, ⟨k, hk, hbad⟩, rp⟩ | ⟨rfl, hfi, ⟨k, hk, hhe⟩, rp⟩ | ⟨rfl, hfi, hno, s', d⟩
 · obtain ⟨b1, hr⟩ := h.pair2 rp f1 (fun k hk => Or.inl hk) (f := 68) (args := #[.pointer (some ⟨rb, 0, none⟩), .slice a2 zs.length p2]) (v := fC 3) (q := q) (fun W hW hf => by
     refine (hr0 W hW hf).mono ?_
     rintro e w2 ⟨f2, ⟨rfl, _, rr⟩ | ⟨_, hall, _⟩ | ⟨_, hall, _⟩⟩
     · exact ⟨rfl, r, rr, f2, fun k hk => Or.inl hk, m.le (by omega), LStep.stay _ _⟩
     · have := hall k hk
       rw [fine0, hbad] at this
       cases this
     · have := hall k hk
       rw [fine0, hbad] at this
       cases this)
   exact ⟨3, rfl, b1, hr⟩
 · obtain ⟨b1, hr⟩ := h.pair2 rp f1 (fun k hk => Or.inl hk) (f := 68) (args := #[.pointer (some ⟨rb, 0, none⟩), .slice a2 zs.length p2]) (v := fC 4) (q := q) (fun W hW hf => by
     refine (hr0 W hW hf).mono ?_
     rintro e w2 ⟨f2, ⟨_, ⟨j, hj, hbad⟩, _⟩ | ⟨rfl, _, _, rr⟩ | ⟨_, _, hall, _⟩⟩
     · rw [fine0, hfi j hj] at hbad
       cases hbad
     · exact ⟨rfl, r, rr, f2, fun k hk => Or.inl hk, m.le (by omega), LStep.stay _ _⟩
     · have := hall k hk
       rw [held0, hhe] at this
       cases this)
   exact ⟨4, rfl, b1, hr⟩
 · obtain ⟨b1, hr⟩ := h.pair2 d.rep f1 d.foot (f := 68) (args := #[.pointer (some ⟨rb, 0, none⟩), .slice a2 zs.length p2]) (v := fC 0) (q := q) (fun W hW hf => by
     refine (hr0 W hW hf).mono ?_
     rintro e w2 ⟨f2, ⟨_, ⟨j, hj, hbad⟩, _⟩ | ⟨_, _, ⟨j, hj, hh⟩, _⟩ | ⟨rfl, _, _, sv, rr, f3, o3⟩⟩
     · rw [fine0, hfi j hj] at hbad
       cases hbad
     · rw [held0, hno j hj] at hh
       cases hh
     · exact ⟨rfl, _, rr, f3, rfoot_up o3 (fun k hk => Or.inl hk), m.destroy d (by have := fine_len hfi; omega) sv, m.lsD d hfi hno sv⟩)
   exact ⟨0, rfl, b1, hr⟩
end
end Go.Proofs.YthdhegmlknpllaaGreat
