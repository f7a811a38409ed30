/-
  The walk of Frozen (5).
-/
import Derived.Test.YthdhegmlknpllaaIm
namespace Go.Proofs.Ythdhegmlknpllaa
open Go.RowKit Go.Maps Go.MuLone

/-- A list of lists of numbers that lies ahead of B. -/
structure RawsB (B : Nat) (w : World) (ao : Option Addr) (rows : List (Option Addr × List Int × Nat)) (cap : Nat) : Prop where
  le : rows.length ≤ cap
  at' : 0 < rows.length → ∃ b off, ao = some ⟨b, off, none⟩ ∧ b < B ∧ ∀ i (h : i < rows.length), w.cell? ⟨b, off + i, none⟩ = some (.slice rows[i].1 rows[i].2.1.length rows[i].2.2)
  row : ∀ r ∈ rows, RowB B w r.1 r.2.1 r.2.2 ∧ Bnd r.2.1

theorem RawsB.fr {B : Nat} {w w' : World} {ao : Option Addr} {rows : List (Option Addr × List Int × Nat)} {cap : Nat} {F : List Nat} (h : RawsB B w ao rows cap) (hf : Fr F w w') (hF : ∀ k ∈ F, B ≤ k) : RawsB B w' ao rows cap := by
  refine ⟨h.le, fun h0 => ?_, fun r hr => ⟨(h.row r hr).1.fr hf hF, (h.row r hr).2⟩⟩
  obtain ⟨b, off, e, hb, hc⟩ := h.at' h0
  refine ⟨b, off, e, hb, fun i hi => ?_⟩
  exact (World.cell?_of_block (hf.block b (World.block_lt_of_cell? _ _ (hc i hi)) (fun hm => by have := hF b hm; omega))).trans (hc i hi)

theorem info46 : (Try.prog.info? 46).map (fun i => (i.zero, i.size, i.bytes)) = some (some (.agg #[.int .i64 0, .int .i64 0, .slice none 0 0]), 3, 40) := by kernel_rfl

theorem Inv.made (d : Int) (n vb mb : Nat) (lv : Value) : InvI (Sto.made d n vb mb lv) d n 0 :=
  ⟨rfl, by simp [Sto.made, Sto.noted, Sto.fresh], rfl, rfl, rfl, rfl, by simp [Sto.made, Sto.noted, Sto.fresh], fun k h => by simp [Sto.made, Sto.noted, Sto.fresh] at h, fun k h => by simp [Sto.made, Sto.noted, Sto.fresh] at h, by rw [made_log]; omega, rfl⟩

/-- What holds ahead of each round. -/
def FroI (B b : Nat) (w wr : World) (id : Int) (n i : Nat) (vg : Value) : Prop :=
  ∃ s l, Rep B wr b 0 s ∧ InvI s id n i ∧ Fr [] w wr ∧ Im B wr s id n l vg ∧ l.length = i

/-- Behind takes. -/
theorem fro_takes {B b : Nat} {w W3 w4 : World} {s : Sto} {id : Int} {n i : Nat} {l : List (Int × Int × Value)} {vg v : Value} (hB : B = w.heap.size) (hR : Rep B W3 b 0 s) (hf : Fr [] w W3) (hI : Im B W3 s id n l vg) (hl : l.length = i) (hT : TakesPost B b s id n i W3 w4 v) :
    ∃ s', Rep B w4 b 0 s' ∧ InvI s' id n (i + 1) ∧ Fr [] w w4 ∧ Im B w4 s' id n l vg ∧ w4.ownsRow B 9 1 v n (thS s' (gd id i) n) := by
  obtain ⟨s', r4, i4, f4, a4, t4, o4⟩ := hT
  refine ⟨s', r4, i4, hf.trans f4 (fun k hk => Or.inr (by rw [← hB]; exact (hR.lt k hk).1)), hI.kept hR f4 (fun k hk => hk) (fun k hk j => t4 _ _ (by unfold gd; omega)), ?_⟩
  refine ⟨o4.1, ?_⟩
  rcases o4.2 with h0 | ⟨g, cap, cur, h1, h2, r⟩
  · exact .inl h0
  · exact .inr ⟨g, cap, cur, h1, by have := hf.size; omega, r⟩

/-- What holds while the images are looked at. -/
structure FroJ (B b : Nat) (w wr : World) (d : Int) (n k : Nat) (s : Sto) (l : List (Int × Int × Value)) (vg v : Value) (bx : Nat) : Prop where
  rep : Rep B wr b 0 s
  inv : InvI s d n (k + 1)
  fr : Fr [] w wr
  im : Im B wr s d n l vg
  own : wr.ownsRow B 9 1 v n (thS s (gd d k) n)
  box : wr.heap[bx]? = some (.cells #[.int .i64 (gd d k), .int .i64 k, v] 46 (0, 0))

theorem FroJ.step {B b : Nat} {w wr w' : World} {d : Int} {n k : Nat} {s : Sto} {l : List (Int × Int × Value)} {vg v : Value} {bx : Nat} (h : FroJ B b w wr d n k s l vg v bx) (hB : B = w.heap.size) (hr : Rep B w' b 0 s) (hf : Fr (foot b s) wr w') : FroJ B b w w' d n k s l vg v bx :=
  ⟨hr, h.inv, h.fr.trans hf (fun j hj => Or.inr (by rw [← hB]; exact (h.rep.lt j hj).1)), h.im.kept h.rep hf (fun _ hj => hj) (fun _ _ _ => rfl), own_fr h.own hf (own_foot h.rep h.own (by decide)), by
    rw [hf.block bx (Array.getElem?_eq_some_iff.1 h.box).1 (tag_foot h.rep h.box (by decide))]; exact h.box⟩
theorem FroJ.step0 {B b : Nat} {w wr w' : World} {d : Int} {n k : Nat} {s : Sto} {l : List (Int × Int × Value)} {vg v : Value} {bx : Nat} (h : FroJ B b w wr d n k s l vg v bx) (hf : Fr [] wr w') : FroJ B b w w' d n k s l vg v bx :=
  ⟨h.rep.kept0 hf, h.inv, h.fr.trans hf (by simp), h.im.kept0 hf, own_fr h.own hf (by simp), by rw [hf.block bx (Array.getElem?_eq_some_iff.1 h.box).1 (by simp)]; exact h.box⟩

theorem gd64 {d : Int} (h : 1 ≤ d ∧ d ≤ 999) {k : Nat} (hk : k ≤ 20) : In64 (gd d k) := by unfold gd; exact ⟨by omega, by omega⟩

/-- The look at one image. -/
theorem FroJ.is {B b : Nat} {w wr : World} {d : Int} {n k : Nat} {s : Sto} {l : List (Int × Int × Value)} {vg v : Value} {bx : Nat} (h : FroJ B b w wr d n k s l vg v bx) (hB : B = w.heap.size) (hd : 1 ≤ d ∧ d ≤ 999) (hn : n ≤ 16) (hk : k < 12) (j : Nat) (hj : j < l.length) (hl : l.length = k) :
    Calls Try.prog 21 #[.agg #[.int .i64 (gd d j), .int .i64 l[j].2.1, l[j].2.2], .pointer (some ⟨b, 0, none⟩)] wr fun e w' => e = .returned (.bool true) ∧ FroJ B b w w' d n k s l vg v bx := by
  have ho := (h.im.one j hj).2
  have hs := h.inv.ss
  refine (is_any B b s (gd d j) l[j].2.1 l[j].2.2 B wr h.rep (by omega) (gd64 hd (by omega)) ⟨s.ss[j], List.getElem_mem (by omega), by rw [h.inv.gd j (by omega)]; simp [gd]⟩ (by rw [h.inv.vol]; exact hn) (by rw [h.inv.vol]; exact ho) (own_foot h.rep ho (by decide))).mono ?_
  rintro e w' ⟨rfl, r, f⟩
  exact ⟨rfl, h.step hB r f⟩

set_option maxRecDepth 100000 in
set_option maxHeartbeats 6400000 in
theorem frozen_any (id blocks : Int) (ao : Option Addr) (rows : List (Option Addr × List Int × Nat)) (cap : Nat) (w : World) (hi : In64 id) (hb : In64 blocks) (hr : RawsB w.heap.size w ao rows cap) :
    Calls Try.prog 5 #[.int .i64 id, .int .i64 blocks, .slice ao rows.length cap] w fun e w' => e = .returned (.bool true) ∧ Below w.heap.size w w' := by
  obtain ⟨i0, hi0, hz0, hz1, hz2⟩ := info_parts info46
  have HS := store_any id blocks w hi hb
  have HP : Hid (∀ W, Calls Try.prog 15 #[.int .i64 blocks, .int .i64 16] W fun e w' => e = .returned (.int .i64 (pk blocks 16)) ∧ w' = W) := fun W => pick_any blocks 16 W hb (by omega) (by omega)
  have hnk : ((nOf blocks : Nat) : Int) = 1 + pk blocks 16 := by have := pk_lt blocks 16 (by omega); unfold nOf; omega
  have hid := idOf_ok id
  have hn := nOf_ok blocks
  have p1 := pk_lt blocks 16 (by omega)
  obtain ⟨y, hy⟩ : ∃ y, pk blocks 16 = y := ⟨_, rfl⟩
  obtain ⟨n, hnn⟩ : ∃ n, nOf blocks = n := ⟨_, rfl⟩
  obtain ⟨d, hd⟩ : ∃ d, idOf id = d := ⟨_, rfl⟩
  rw [hy] at HP hnk p1
  rw [hnn] at HS hnk hn
  rw [hd] at HS hid
  obtain ⟨B, hB⟩ : ∃ B, w.heap.size = B := ⟨_, rfl⟩
  have HB : Hid (B = w.heap.size ∧ RawsB B w ao rows cap) := ⟨hB.symm, by rw [← hB]; exact hr⟩
  rw [hB] at HS ⊢
  have q1 : IntKind.i64.wrap (1 + y) = (n : Int) := by rw [hnk]; exact wrap_fit ⟨by omega, by omega⟩
  have hcap := hr.le
  clear hy hnn hd hB hr hnk
  go_enter Try.func5, Try.ntmps5
  go_wp2_with (first
    | (go_at_call 19; refine HS.mono ?_; rintro e w1 ⟨b, vb, mb, lv, rfl, r1, f1⟩
       have H0 : Hid (FroI B b w w1 d n 0 (.slice none 0 0)) := ⟨Sto.made d n vb mb lv, [], r1, Inv.made d n vb mb lv, f1, Im.nil _ _ _ _ _, rfl⟩
       clear r1 f1)
    | (go_at_call 15; refine (HP.out _).mono ?_; rintro e w' ⟨rfl, hw'⟩; have hw' := hw'.symm; subst hw'))
  go_loopw [9, 10] (fun vg i' wr => ∃ k : Nat, k ≤ 12 ∧ k ≤ rows.length ∧ i' = .int .i64 k ∧ Hid (FroI B b w wr d n k vg)) (fun _ i' _ => 12 - (intOf i').toNat)
  case atStart => exact ⟨0, Nat.zero_le _, Nat.zero_le _, rfl, H0⟩
  case round =>
    obtain ⟨k, hk, hkl, rfl, HK⟩ := hrel
    obtain ⟨W3, hW3⟩ : ∃ W3, W3 = wr := ⟨_, rfl⟩
    subst hW3
    clear H0 HS
    obtain ⟨s, l, hR, hI, hF, hM, hL⟩ := HK.out
    obtain ⟨ao9, cap9, hsh⟩ := own_shape hM.row
    rw [hL] at hsh
    subst hsh
    have HW1 : Hid (Calls Try.prog 22 #[.pointer (some ⟨b, 0, none⟩), .int .i64 n, .string ⟨#[100, 97, 116, 97]⟩] W3 fun e w' => e = .returned (.int .i64 1) ∧ Rep B w' b 0 s ∧ Fr (foot b s) W3 w') := write_bad B b s n ⟨#[100, 97, 116, 97]⟩ W3 hR (Or.inl (by rw [hI.vol]; simp))
    have HW2 : Hid (∀ W, Rep B W b 0 s → Calls Try.prog 22 #[.pointer (some ⟨b, 0, none⟩), .int .i64 0, .string ⟨#[108, 111, 110, 103, 32, 100, 97, 116, 97]⟩] W fun e w' => e = .returned (.int .i64 1) ∧ Rep B w' b 0 s ∧ Fr (foot b s) W w') := fun W hW => write_bad B b s 0 ⟨#[108, 111, 110, 103, 32, 100, 97, 116, 97]⟩ W hW (Or.inr (by decide))
    have HW3 : Hid (∀ W, Rep B W b 0 s → Calls Try.prog 23 #[.pointer (some ⟨b, 0, none⟩)] W fun e w' => ∃ gg, e = .returned (.slice (some ⟨gg, 0, none⟩) k k) ∧ W.heap.size ≤ gg ∧ w'.heap[gg]? = some (.cells (tlC (s.ss.map t3)).toArray 100 (0, 0)) ∧ Rep B w' b 0 s ∧ Fr (foot b s) W w') := fun W hW => by
      have := snaps_any B b s W hW (by rw [hI.ss]; omega)
      rw [hI.ss] at this
      exact this
    have HS : Hid (Rep B W3 b 0 s ∧ InvI s d n k ∧ Fr [] w W3 ∧ Im B W3 s d n l (.slice ao9 k cap9) ∧ l.length = k) := ⟨hR, hI, hF, hM, hL⟩
    clear hR hI hF hM hL HK
    by_cases hlt : k < rows.length
    · by_cases hlt2 : k < 12
      · have hltz : (k : Int) < (rows.length : Int) := by omega
        have hltz2 : (k : Int) < 12 := by omega
        have hRw := HB.out.2.fr HS.out.2.2.1 (by simp)
        obtain ⟨rb, off, hao, hrb, hc⟩ := hRw.at' (by omega)
        have d1 := hc k hlt
        have hr1 := hRw.row rows[k] (List.getElem_mem hlt)
        obtain ⟨r, hrr⟩ : ∃ r, rows[k] = r := ⟨_, rfl⟩
        rw [hrr] at d1 hr1
        subst hao
        have HT := takes_any B b s d n k r.1 r.2.1 r.2.2 W3 HS.out.1 HS.out.2.1 hlt2 hid hn hr1.1 hr1.2 k ⟨by omega, by omega⟩
        obtain ⟨a1, z1, c1⟩ := r
        simp only at d1 HT
        have hcz := hr1.1.1
        simp only at hcz
        clear hc hRw hr1 hrr HW1 HW2 HW3
        go_wp2_with (first
          | (go_at_call 20; refine HT.mono ?_; rintro e w4 ⟨v, rfl, t4⟩
             obtain ⟨s', r4, i4, f4, m4, o4⟩ := fro_takes HB.out.1 HS.out.1 HS.out.2.2.1 HS.out.2.2.2.1 HS.out.2.2.2.2 t4
             have H4 : Hid (Rep B w4 b 0 s' ∧ InvI s' d n (k + 1) ∧ Fr [] w w4 ∧ Im B w4 s' d n l (.slice ao9 k cap9) ∧ w4.ownsRow B 9 1 v n (thS s' (gd d k) n)) := ⟨r4, i4, f4, m4, o4⟩
             obtain ⟨a8, c8, hv8⟩ := own_shape o4
             subst hv8
             unfold imgv
             clear t4 r4 i4 f4 m4 o4))
        obtain ⟨bx, hbx⟩ : ∃ bx, w4.heap.size = bx := ⟨_, rfl⟩
        obtain ⟨g, hgg⟩ : ∃ g, d * 1000000 + ((k : Int) + 1) = g := ⟨_, rfl⟩
        obtain ⟨W5, hW5⟩ : ∃ W5, w4.alloc (.cells #[.int .i64 (d * 1000000 + ((k : Int) + 1)), .int .i64 k, .slice a8 n c8] 46) = W5 := ⟨_, rfl⟩
        have HG : Hid (gd d k = g) := hgg
        have HJ : Hid (FroJ B b w W5 d n k s' l (.slice ao9 k cap9) (.slice a8 n c8) bx) := by
          rw [← hW5, ← hbx]
          exact ⟨H4.out.1.kept0 ((Fr.refl _ _).alloc _), H4.out.2.1, H4.out.2.2.1.alloc _, H4.out.2.2.2.1.kept0 ((Fr.refl _ _).alloc _), H4.out.2.2.2.2.alloc _, heap_alloc_new w4 _⟩
        rw [hW5, hbx, hgg]
        clear hW5 hbx hgg H4 HT d1
        go_loopw [13] (fun i' wr => ∃ j : Nat, j ≤ k ∧ i' = .int .i64 j ∧ Hid (FroJ B b w wr d n k s' l (.slice ao9 k cap9) (.slice a8 n c8) bx)) (fun i' _ => k - (intOf i').toNat)
        case atStart => exact ⟨0, Nat.zero_le _, rfl, HJ⟩
        case round =>
          obtain ⟨j, hj, rfl, HK⟩ := hrel
          obtain ⟨W6, hW6⟩ : ∃ W6, W6 = wr := ⟨_, rfl⟩
          subst hW6
          clear HJ
          by_cases hjk : j < k
          · have hjl : j < l.length := by rw [HS.out.2.2.2.2]; exact hjk
            have HC := HK.out.is HB.out.1 hid hn.2 hlt2 j hjl HS.out.2.2.2.2
            have hg := imC_get l j hjl
            have ho := HK.out.im.row
            rw [HS.out.2.2.2.2] at ho
            obtain ⟨lg, hlg, hc9, hcc⟩ := own_addr ho (by omega)
            subst hlg
            rw [(HK.out.im.one j hjl).1] at hg
            obtain ⟨aj, cj, hsj⟩ := own_shape (HK.out.im.one j hjl).2
            rw [hsj] at hg HC
            obtain ⟨tj, htj⟩ : ∃ tj, l[j].2.1 = tj := ⟨_, rfl⟩
            rw [htj] at hg HC
            obtain ⟨gj, hgj⟩ : ∃ gj, gd d j = gj := ⟨_, rfl⟩
            have hne : (gj == g) = false := by
              rw [← hgj, ← HG.out]
              simp [gd]
              omega
            rw [hgj] at hg HC
            have d0 : W6.cell? ⟨lg, j * 3, none⟩ = some (.int .i64 gj) := by rw [hcc _ (by omega)]; exact hg.1
            have d1 : W6.cell? ⟨lg, j * 3 + 1, none⟩ = some (.int .i64 tj) := by rw [hcc _ (by omega)]; exact hg.2.1
            have d2 : W6.cell? ⟨lg, j * 3 + 2, none⟩ = some (.slice aj n cj) := by rw [hcc _ (by omega)]; exact hg.2.2
            have hjz : (j : Int) < (k : Int) := by omega
            have HE : Hid (∀ W, FroJ B b w W d n k s' l (.slice (some ⟨lg, 0, none⟩) k cap9) (.slice a8 n c8) bx → (∀ m, (W.drewN m).cell? ⟨lg, j * 3, none⟩ = some (.int .i64 gj)) ∧ ∀ m, (W.drewN m).cell? ⟨bx, 0, none⟩ = some (.int .i64 g)) := by
              intro W hW
              refine ⟨fun m => ?_, fun m => ?_⟩
              · have h1 := hW.im.row
                rw [HS.out.2.2.2.2] at h1
                obtain ⟨lg', e', _, hcc'⟩ := own_addr h1 (by omega)
                have : lg' = lg := by simpa using e'.symm
                subst this
                show W.cell? ⟨lg', j * 3, none⟩ = _
                rw [hcc' _ (by omega), (imC_get l j hjl).1, (hW.im.one j hjl).1, hgj]
              · show W.cell? ⟨bx, 0, none⟩ = _
                rw [cell_of hW.box]
                simp [HG.out]
            clear hg ho hcc hsj htj hgj
            go_wp2_with (first
              | (go_at_call 21; refine HC.mono ?_; rintro e w7 ⟨rfl, r7⟩
                 have H7 : Hid (FroJ B b w w7 d n k s' l (.slice (some ⟨lg, 0, none⟩) k cap9) (.slice a8 n c8) bx) := r7
                 have x0 := (HE.out w7 r7).1
                 have x1 := (HE.out w7 r7).2
                 clear r7))
            go_quiet (fail)
            go_wp2
            go_roundw
            case rel => exact ⟨j + 1, by omega, by go_num, H7.out.step0 ((Fr.refl _ _).drewN nq)⟩
            case measure => simp [intOf]; omega
          · have hkk : j = k := by omega
            subst hkk
            have e0 : W6.cell? ⟨bx, 0, none⟩ = some (.int .i64 g) := by rw [cell_of HK.out.box]; simp [HG.out]
            have e1 : W6.cell? ⟨bx, 1, none⟩ = some (.int .i64 j) := by rw [cell_of HK.out.box]; rfl
            have e2 : W6.cell? ⟨bx, 2, none⟩ = some (.slice a8 n c8) := by rw [cell_of HK.out.box]; rfl
            have HO : Hid (W6.ownsRow B 46 3 (.slice ao9 j cap9) j (imC l)) := by
              have := HK.out.im.row
              rw [HS.out.2.2.2.2] at this
              exact this
            have hBW : B ≤ W6.heap.size := by rw [HB.out.1]; exact HK.out.fr.size
            go_wp2_with (first
              | (at_builtin; refine wpList_append_own _ rfl _ _ 43 rfl B 46 i0 _ 3 40 Try.underlying43 hi0 hz0 hz1 hz2 rfl (by omega) (.slice ao9 j cap9) j (imC l) rfl (HO.out.alloc _) ⟨W6.heap.size, 0, none⟩ 1 1 [.int .i64 g, .int .i64 j, .slice a8 n c8] rfl (by simp) (World.news_of_block (cs := #[.int .i64 g, .int .i64 j, .slice a8 n c8]) (t := 46) (fr := (0, 0)) (heap_alloc_new W6 _)) (by simp [Value.oneCell']) (by unfold maxLen; omega) (by omega) (by simp; omega) ?_; intro v9 w9 hown9 hgrow9 hne9
                 have H9 : Hid (FroI B b w w9 d n (j + 1) v9) := by
                   have f9 : Fr (Value.slice ao9 j cap9).ownBlock.toList W6 w9 := ((Fr.refl _ _).alloc _).grown hgrow9 (fun x hx => Or.inl (by simp [hx]))
                   refine ⟨s', l ++ [(gd d l.length, (j : Int), .slice a8 n c8)], HK.out.rep.kept f9 (fun x hx hm => own_foot HK.out.rep HO.out (by decide) x (by simpa using hm) hx), HK.out.inv, HK.out.fr.trans f9 (fun x hx => Or.inr (by rw [← HB.out.1]; exact (HO.out.lt x (by simpa using hx)).1)), ?_, by simp [HS.out.2.2.2.2]⟩
                   refine (HK.out.im.kept0 ((Fr.refl _ _).alloc _)).push (t := (j : Int)) (v := .slice a8 n c8) ?_ hgrow9 ?_
                   · rw [HS.out.2.2.2.2, HG.out]
                     exact hown9
                   · rw [HS.out.2.2.2.2]
                     exact HK.out.own.alloc _
                 clear hown9 hgrow9 hne9))
            go_roundw
            case rel => exact ⟨j + 1, by omega, by omega, by go_num, H9⟩
            case measure => simp [intOf]; omega
      · go_wp2_with (first
          | (go_at_call 22; refine HW1.out.mono ?_; rintro e w4 ⟨rfl, r4, f4⟩
             have H4 : Hid (Rep B w4 b 0 s ∧ Fr [] w w4) := ⟨r4, HS.out.2.2.1.trans f4 (fun j hj => Or.inr (by rw [← HB.out.1]; exact (HS.out.1.lt j hj).1))⟩
             clear r4 f4 HW1)
          | (go_at_call 22; refine (HW2.out _ H4.out.1).mono ?_; rintro e w5 ⟨rfl, r5, f5⟩
             have H5 : Hid (Rep B w5 b 0 s ∧ Fr [] w w5) := ⟨r5, H4.out.2.trans f5 (fun j hj => Or.inr (by rw [← HB.out.1]; exact (HS.out.1.lt j hj).1))⟩
             clear r5 f5 HW2)
          | (go_at_call 23; refine (HW3.out _ H5.out.1).mono ?_; rintro e w6 ⟨gg, rfl, _, _, r6, f6⟩
             have H6 : Hid (Fr [] w w6) := H5.out.2.trans f6 (fun j hj => Or.inr (by rw [← HB.out.1]; exact (HS.out.1.lt j hj).1))
             clear r6 f6))
        go_ret
        exact ⟨rfl, H6.out.below (by rw [HB.out.1]; exact Nat.le_refl _) (by simp)⟩
    · go_wp2_with (first
        | (go_at_call 22; refine HW1.out.mono ?_; rintro e w4 ⟨rfl, r4, f4⟩
           have H4 : Hid (Rep B w4 b 0 s ∧ Fr [] w w4) := ⟨r4, HS.out.2.2.1.trans f4 (fun j hj => Or.inr (by rw [← HB.out.1]; exact (HS.out.1.lt j hj).1))⟩
           clear r4 f4 HW1)
        | (go_at_call 22; refine (HW2.out _ H4.out.1).mono ?_; rintro e w5 ⟨rfl, r5, f5⟩
           have H5 : Hid (Rep B w5 b 0 s ∧ Fr [] w w5) := ⟨r5, H4.out.2.trans f5 (fun j hj => Or.inr (by rw [← HB.out.1]; exact (HS.out.1.lt j hj).1))⟩
           clear r5 f5 HW2)
        | (go_at_call 23; refine (HW3.out _ H5.out.1).mono ?_; rintro e w6 ⟨gg, rfl, _, _, r6, f6⟩
           have H6 : Hid (Fr [] w w6) := H5.out.2.trans f6 (fun j hj => Or.inr (by rw [← HB.out.1]; exact (HS.out.1.lt j hj).1))
           clear r6 f6))
      go_ret
      exact ⟨rfl, H6.out.below (by rw [HB.out.1]; exact Nat.le_refl _) (by simp)⟩
end Go.Proofs.Ythdhegmlknpllaa
