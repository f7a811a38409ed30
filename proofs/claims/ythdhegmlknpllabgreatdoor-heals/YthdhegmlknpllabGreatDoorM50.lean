import Derived.Test.YthdhegmlknpllabGreatDoorM48
/-
  The walk of tetherkeep's based (11).
-/
namespace Go.Proofs.YthdhegmlknpllabGreatDoor
open Go.RowKit Go.Maps Go.MuLone

/-- What based finds in common. -/
theorem Net.common {w0 W : World} {N : NC} {x : PS} (h : Net w0 W N x) {i : Nat} {p : Pe} {R : Sto} (hp : x.ps[i]? = some p) (hR : x.Rs[i]? = some R) : p.k = 0 ∨ ∃ y ∈ R.ss, (∃ m ∈ x.S.ms, m.1 = y.guid) ∨ ∃ z ∈ x.S.ss, z.guid = y.guid := by
  have ok := h.I.pe i p R hp hR
  rcases ok.k with e | ⟨hg, m, hm, hmk⟩
  · exact Or.inl e
  · right
    have hg1 := hg.1
    rcases ok.rr with e | ⟨e0, e⟩
    · obtain ⟨y, hy, hyg⟩ := lastG_mem (l := R.ss) (by rw [e]; omega)
      exact ⟨y, hy, Or.inl ⟨m, hm, by rw [hmk, hyg, e]⟩⟩
    · obtain ⟨y, hy, hyg⟩ := lastG_mem (l := R.ss) (by rw [e]; exact e0)
      rcases ok.x with ex | ⟨⟨z, hz, hzg⟩, _⟩
      · exact absurd ex e0
      · exact ⟨y, hy, Or.inr ⟨z, hz, by rw [hzg, hyg, e]⟩⟩

/-- The net while it is looked through. -/
def BQ (w0 : World) (N : NC) (x : PS) (rv wv iv : Value) (vs : List Value) (w : World) (g1 g2 g5 : Nat) (R : Sto) (wr : World) : Prop :=
  NQ w0 N x rv wv iv vs w wr ∧ wr.heap[g1]? = some (.cells (i1C (x.S.ms.map Prod.fst)).toArray 3 (0, 0)) ∧ wr.heap[g2]? = some (.cells (tlC (x.S.ss.map t3)).toArray 55 (0, 0)) ∧ wr.heap[g5]? = some (.cells (tlC (R.ss.map t3)).toArray 55 (0, 0))
theorem BQ.same {w0 : World} {N : NC} {x : PS} {rv wv iv : Value} {vs : List Value} {w : World} {g1 g2 g5 : Nat} {R : Sto} {wr wr' : World} (h : BQ w0 N x rv wv iv vs w g1 g2 g5 R wr) (hf : Fr [] wr wr') : BQ w0 N x rv wv iv vs w g1 g2 g5 R wr' := by
  have q := (NQ.start h.1.2.1 h.1.1).same hf
  exact ⟨h.1.same hf, q.2.2.2 g1 _ 3 (Or.inr (Or.inl rfl)) h.2.1, q.2.2.2 g2 _ 55 (Or.inl rfl) h.2.2.1, q.2.2.2 g5 _ 55 (Or.inl rfl) h.2.2.2⟩
/-- What a snapshot of a replica has in common with the source. -/
def Hit (x : PS) (g : Int) : Prop := (∃ m ∈ x.S.ms, m.1 = g) ∨ ∃ z ∈ x.S.ss, z.guid = g
def Cm (x : PS) (p : Pe) (R : Sto) (l : Nat) : Prop := p.k = 0 ∨ ∃ y ∈ R.ss.take l, Hit x y.guid
theorem Cm.succ {x : PS} {p : Pe} {R : Sto} {l : Nat} (hl : l < R.ss.length) : Cm x p R (l + 1) ↔ Cm x p R l ∨ Hit x R.ss[l].guid := by
  unfold Cm
  rw [List.take_succ_eq_append_getElem hl]
  simp only [List.mem_append, List.mem_singleton]
  constructor
  · rintro (h | ⟨y, h | h, h2⟩)
    · exact Or.inl (Or.inl h)
    · exact Or.inl (Or.inr ⟨y, h, h2⟩)
    · subst h
      exact Or.inr h2
  · rintro ((h | ⟨y, h, h2⟩) | h)
    · exact Or.inl h
    · exact Or.inr ⟨y, Or.inl h, h2⟩
    · exact Or.inr ⟨_, Or.inr rfl, h⟩

set_option maxRecDepth 100000 in
set_option maxHeartbeats 1600000 in
theorem based_any (w0 : World) (N : NC) (x : PS) (w : World) (h : Net w0 w N x) :
    Calls Tryz.prog 11 #[.pointer (some ⟨N.nb, 0, none⟩)] w fun e w' => e = .returned (.bool true) ∧ Net w0 w' N x := by
  obtain ⟨rv, wv, iv, vs, M⟩ := h.m
  obtain ⟨ra, rc, hrv⟩ := own_shape M.ro
  subst hrv
  obtain ⟨m, hm⟩ : ∃ m, N.rcs.length = m := ⟨_, rfl⟩
  have HM : Hid (N.rcs.length = m) := hm
  obtain ⟨k, hk⟩ : ∃ k, x.S.ss.length = k := ⟨_, rfl⟩
  have HK : Hid (x.S.ss.length = k) := hk
  obtain ⟨q, hq⟩ : ∃ q, x.S.ms.length = q := ⟨_, rfl⟩
  have HQ : Hid (x.S.ms.length = q) := hq
  have H0 : Hid (NQ w0 N x (.slice ra N.rcs.length rc) wv iv vs w w) := NQ.start h M
  have hk12 : k ≤ 12 := by rw [← hk]; exact h.I.src.len
  have hq12 : q ≤ 12 := by rw [← hq]; have := h.I.marks; omega
  have hm3 : m ≤ 3 := by have h1 := M.rl; have h2 := h.I.rl; have h3 := h.I.pl; omega
  have n0 := M.cells.1
  clear h M hm hk hq
  go_enter Tryz.func11, Tryz.ntmps11
  go_wp2_with (first
    | (go_at_call 13; refine (nq_store (W' := w) H0.out).mono ?_; rintro e w' ⟨rfl, hw'⟩; have hw'' := hw'.symm; subst hw'')
    | (go_at_call 27; refine (nq_marks (W' := w) H0.out).mono ?_; rintro e w1 ⟨g1, rfl, b1, q1⟩; rw [HQ.out]; have H1 : Hid (NQ w0 N x (.slice ra N.rcs.length rc) wv iv vs w w1 ∧ w1.heap[g1]? = some (.cells (i1C (x.S.ms.map Prod.fst)).toArray 3 (0, 0))) := ⟨q1, b1⟩; clear q1 b1)
    | (go_at_call 14; refine (nq_snaps (W' := w1) (NQ.start H1.out.1.2.1 H1.out.1.1)).mono ?_; rintro e w2 ⟨g2, rfl, b2, q2⟩; rw [HK.out]; have H2 : Hid (NQ w0 N x (.slice ra N.rcs.length rc) wv iv vs w w2 ∧ w2.heap[g1]? = some (.cells (i1C (x.S.ms.map Prod.fst)).toArray 3 (0, 0)) ∧ w2.heap[g2]? = some (.cells (tlC (x.S.ss.map t3)).toArray 55 (0, 0))) := ⟨H1.out.1.trans q2, q2.2.2.2 g1 _ 3 (Or.inr (Or.inl rfl)) H1.out.2, b2⟩; clear q2 b2))
  go_loopw [6] (fun i wr => ∃ j : Nat, j ≤ m ∧ i = .int .i64 j ∧ Hid (NQ w0 N x (.slice ra N.rcs.length rc) wv iv vs w wr ∧ wr.heap[g1]? = some (.cells (i1C (x.S.ms.map Prod.fst)).toArray 3 (0, 0)) ∧ wr.heap[g2]? = some (.cells (tlC (x.S.ss.map t3)).toArray 55 (0, 0)))) (fun i _ => m - (intOf i).toNat)
  case atStart => exact ⟨0, Nat.zero_le _, rfl, H2⟩
  case round =>
    obtain ⟨j, hj, rfl, HJ⟩ := hrel
    obtain ⟨W3, hW3⟩ : ∃ W3, W3 = wr := ⟨_, rfl⟩
    subst hW3
    clear n0
    obtain ⟨x0, x1, x2, x3, x4, z3, z4⟩ := HJ.out.1.1.cells
    rw [HM.out] at x1
    clear x2 x3 x4 z3 z4
    by_cases hlt : j < m
    · have hltz : (j : Int) < (m : Int) := by omega
      have j0 : (0 : Int) ≤ (j : Int) := by omega
      obtain ⟨r, R, p, hr, hR, hp⟩ := HJ.out.1.2.1.at (i := j) (by rw [HM.out]; exact hlt)
      obtain ⟨rg, hrg, _, _⟩ := own_addr HJ.out.1.1.ro (by have := HM.out; omega)
      subst hrg
      obtain ⟨kr, hkr⟩ : ∃ kr, R.ss.length = kr := ⟨_, rfl⟩
      have kr12 : kr ≤ 12 := by have := (HJ.out.1.2.1.I.re R (List.mem_of_getElem? hR)).rp.len; omega
      have HKR : Hid (R.ss.length = kr) := hkr
      have HR : Hid (N.rcs[j]? = some r ∧ x.Rs[j]? = some R ∧ x.ps[j]? = some p) := ⟨hr, hR, hp⟩
      have HCm : Hid (Cm x p R kr) := by
        rcases HJ.out.1.2.1.common hp hR with e | ⟨y, hy, e⟩
        · exact Or.inl e
        · exact Or.inr ⟨y, by rw [← hkr, List.take_length]; exact hy, e⟩
      have HXr : Hid (∀ W, NQ w0 N x (.slice (some ⟨rg, 0, none⟩) N.rcs.length rc) wv iv vs w W → W.cell? ⟨N.nb, 1, none⟩ = some (.slice (some ⟨rg, 0, none⟩) m rc) ∧ W.cell? ⟨rg, j, none⟩ = some (.pointer (some ⟨r.kb, 0, none⟩))) := fun W hW => by
        have M3 := hW.1
        rw [HM.out] at M3
        exact ⟨M3.cells.2.1, ro_cell M3 HM.out hr⟩
      obtain ⟨rb, hrb⟩ : ∃ rb, r.b = rb := ⟨_, rfl⟩
      have HRb : Hid (r.b = rb) := hrb
      obtain ⟨pk, hpk⟩ : ∃ pk, p.k = pk := ⟨_, rfl⟩
      have HPk : Hid (p.k = pk) := hpk
      clear hkr hr hR hp hrb hpk
      go_wp2_with (first
        | (go_at_call 26; refine (nq_known (W' := W3) (NQ.start HJ.out.1.2.1 HJ.out.1.1) HR.out.2.2).mono ?_; rintro e w4 ⟨rfl, q4⟩; rw [HPk.out]; have H4 : Hid (NQ w0 N x (.slice (some ⟨rg, 0, none⟩) N.rcs.length rc) wv iv vs w w4 ∧ w4.heap[g1]? = some (.cells (i1C (x.S.ms.map Prod.fst)).toArray 3 (0, 0)) ∧ w4.heap[g2]? = some (.cells (tlC (x.S.ss.map t3)).toArray 55 (0, 0))) := ⟨HJ.out.1.trans q4, q4.2.2.2 g1 _ 3 (Or.inr (Or.inl rfl)) HJ.out.2.1, q4.2.2.2 g2 _ 55 (Or.inl rfl) HJ.out.2.2⟩; obtain ⟨y1, yr⟩ := HXr.out w4 H4.out.1; clear q4)
        | (go_at_call 20; refine (nq_rstore (W' := w4) H4.out.1 HR.out.1 HR.out.2.1).mono ?_; rintro e w' ⟨rfl, hw'⟩; rw [HRb.out]; have hw'' := hw'.symm; subst hw'')
        | (go_at_call 14; rw [← HRb.out]; refine (nq_rsnaps (W' := w4) (NQ.start H4.out.1.2.1 H4.out.1.1) HR.out.1 HR.out.2.1).mono ?_; rintro e w5 ⟨g5, rfl, b5, q5⟩; rw [HKR.out]; have H5 : Hid (BQ w0 N x (.slice (some ⟨rg, 0, none⟩) N.rcs.length rc) wv iv vs w g1 g2 g5 R w5) := ⟨H4.out.1.trans q5, q5.2.2.2 g1 _ 3 (Or.inr (Or.inl rfl)) H4.out.2.1, q5.2.2.2 g2 _ 55 (Or.inl rfl) H4.out.2.2, b5⟩; clear q5 b5))
      go_loopw [10, 11] (fun c i wr => ∃ (b : Bool) (l : Nat), l ≤ kr ∧ c = .bool b ∧ i = .int .i64 l ∧ Hid (BQ w0 N x (.slice (some ⟨rg, 0, none⟩) N.rcs.length rc) wv iv vs w g1 g2 g5 R wr ∧ (Cm x p R l → b = true))) (fun _ i _ => kr - (intOf i).toNat)
      case atStart => exact ⟨_, 0, Nat.zero_le _, rfl, rfl, H5.out, fun e => by
        rcases e with e | ⟨y, hy, _⟩
        · rw [← HPk.out, e]
          rfl
        · simp at hy⟩
      case round =>
        obtain ⟨b0, l, hl, rfl, rfl, HL⟩ := hrel
        obtain ⟨W6, hW6⟩ : ∃ W6, W6 = wr := ⟨_, rfl⟩
        subst hW6
        clear x0 x1 y1 yr
        by_cases hlt2 : l < kr
        · have hltz2 : (l : Int) < (kr : Int) := by omega
          have l0 : (0 : Int) ≤ (l : Int) := by omega
          have hlR : l < R.ss.length := by rw [HKR.out]; exact hlt2
          obtain ⟨gy, hgy⟩ : ∃ gy, R.ss[l].guid = gy := ⟨_, rfl⟩
          have hsu := Cm.succ (x := x) (p := p) hlR
          rw [hgy] at hsu
          have HG : Hid (∀ wr, BQ w0 N x (.slice (some ⟨rg, 0, none⟩) N.rcs.length rc) wv iv vs w g1 g2 g5 R wr → wr.cell? ⟨g5, l * 3, none⟩ = some (.int .i64 gy)) := fun wr hwr => by
            obtain ⟨yg, _, _⟩ := tlC_get (R.ss.map t3) l (by rw [List.length_map]; exact hlR)
            rw [List.getElem_map] at yg
            rw [cell_of hwr.2.2.2, List.getElem?_toArray, ← hgy]
            exact yg
          have HSu : Hid (Cm x p R (l + 1) ↔ Cm x p R l ∨ Hit x gy) := hsu
          clear hsu hgy hlR
          go_wp2
          go_loopw [10, 12] (fun c i wr => ∃ (b : Bool) (t : Nat), t ≤ q ∧ c = .bool b ∧ i = .int .i64 t ∧ Hid (BQ w0 N x (.slice (some ⟨rg, 0, none⟩) N.rcs.length rc) wv iv vs w g1 g2 g5 R wr ∧ (Cm x p R l ∨ (∃ a ∈ x.S.ms.take t, a.1 = gy) → b = true))) (fun _ i _ => q - (intOf i).toNat)
          case atStart => exact ⟨_, 0, Nat.zero_le _, rfl, rfl, HL.out.1, fun e => by
            rcases e with e | ⟨y, hy, _⟩
            · exact HL.out.2 e
            · simp at hy⟩
          case round =>
            obtain ⟨b1, t, ht, rfl, rfl, HT⟩ := hrel
            obtain ⟨W7, hW7⟩ : ∃ W7, W7 = wr := ⟨_, rfl⟩
            subst hW7
            by_cases hlt3 : t < q
            · have hltz3 : (t : Int) < (q : Int) := by omega
              have t0 : (0 : Int) ≤ (t : Int) := by omega
              have htS : t < x.S.ms.length := by rw [HQ.out]; exact hlt3
              have c5 := HG.out W7 HT.out.1
              obtain ⟨ga, hga⟩ : ∃ ga, x.S.ms[t].1 = ga := ⟨_, rfl⟩
              have c1 : W7.cell? ⟨g1, t, none⟩ = some (.int .i64 ga) := by
                rw [cell_of HT.out.1.2.1, List.getElem?_toArray, ← hga]
                unfold i1C
                rw [List.getElem?_map, List.getElem?_map, List.getElem?_eq_getElem htS]
                rfl
              have HTk : Hid ((∃ a ∈ x.S.ms.take (t + 1), a.1 = gy) → (∃ a ∈ x.S.ms.take t, a.1 = gy) ∨ ga = gy) := fun ⟨a, ha, e⟩ => by
                rw [List.take_succ_eq_append_getElem htS] at ha
                rcases List.mem_append.1 ha with h1 | h1
                · exact Or.inl ⟨a, h1, e⟩
                · right
                  have h2 := List.mem_singleton.1 h1
                  rw [← hga, ← h2]
                  exact e
              clear hga htS
              cases b1 with
              | true =>
                go_wp2
                go_quiet (fail)
                go_wp2
                go_roundw
                case rel => exact ⟨true, t + 1, by omega, rfl, by go_num, HT.out.1.same ((Fr.refl _ _).drewN _), fun _ => rfl⟩
                case measure => simp [intOf]; omega
              | false =>
                by_cases he : ga = gy
                · have he1 : (ga == gy) = true := by simpa using he
                  go_wp2
                  go_quiet (fail)
                  go_wp2
                  go_roundw
                  case rel => exact ⟨true, t + 1, by omega, by first | rfl | simp [he], by go_num, HT.out.1.same ((Fr.refl _ _).drewN _), fun _ => rfl⟩
                  case measure => simp [intOf]; omega
                · have he1 : (ga == gy) = false := by simpa using he
                  have HNe : Hid (¬ ga = gy) := he
                  go_wp2
                  go_quiet (fail)
                  go_wp2
                  go_roundw
                  case rel => exact ⟨false, t + 1, by omega, by first | rfl | simp [he], by go_num, HT.out.1.same ((Fr.refl _ _).drewN _), fun e => by
                    rcases e with e | e
                    · exact HT.out.2 (Or.inl e)
                    · rcases HTk.out e with e | e
                      · exact HT.out.2 (Or.inr e)
                      · exact absurd e HNe.out⟩
                  case measure => simp [intOf]; omega
            · have htt : t = q := by omega
              subst htt
              clear HL
              have HT' : Hid (BQ w0 N x (.slice (some ⟨rg, 0, none⟩) N.rcs.length rc) wv iv vs w g1 g2 g5 R W7 ∧ (Cm x p R l ∨ (∃ a ∈ x.S.ms, a.1 = gy) → b1 = true)) := ⟨HT.out.1, by have h8 := HT.out.2; rw [← HQ.out, List.take_length] at h8; exact h8⟩
              go_wp2
              go_loopw [10, 13] (fun c i wr => ∃ (b : Bool) (t : Nat), t ≤ k ∧ c = .bool b ∧ i = .int .i64 t ∧ Hid (BQ w0 N x (.slice (some ⟨rg, 0, none⟩) N.rcs.length rc) wv iv vs w g1 g2 g5 R wr ∧ ((Cm x p R l ∨ (∃ a ∈ x.S.ms, a.1 = gy)) ∨ (∃ a ∈ x.S.ss.take t, a.guid = gy) → b = true))) (fun _ i _ => k - (intOf i).toNat)
              case atStart => exact ⟨_, 0, Nat.zero_le _, rfl, rfl, HT'.out.1, fun e => by
                rcases e with e | ⟨y, hy, _⟩
                · exact HT'.out.2 e
                · simp at hy⟩
              case round =>
                obtain ⟨b2, s, hs, rfl, rfl, HS⟩ := hrel
                obtain ⟨W8, hW8⟩ : ∃ W8, W8 = wr := ⟨_, rfl⟩
                subst hW8
                by_cases hlt4 : s < k
                · have hltz4 : (s : Int) < (k : Int) := by omega
                  have s0 : (0 : Int) ≤ (s : Int) := by omega
                  have hsS : s < x.S.ss.length := by rw [HK.out]; exact hlt4
                  have c5 := HG.out W8 HS.out.1
                  obtain ⟨ga, hga⟩ : ∃ ga, x.S.ss[s].guid = ga := ⟨_, rfl⟩
                  have c1 : W8.cell? ⟨g2, s * 3, none⟩ = some (.int .i64 ga) := by
                    obtain ⟨yg, _, _⟩ := tlC_get (x.S.ss.map t3) s (by rw [List.length_map]; exact hsS)
                    rw [List.getElem_map] at yg
                    rw [cell_of HS.out.1.2.2.1, List.getElem?_toArray, ← hga]
                    exact yg
                  have HTk : Hid ((∃ a ∈ x.S.ss.take (s + 1), a.guid = gy) → (∃ a ∈ x.S.ss.take s, a.guid = gy) ∨ ga = gy) := fun ⟨a, ha, e⟩ => by
                    rw [List.take_succ_eq_append_getElem hsS] at ha
                    rcases List.mem_append.1 ha with h1 | h1
                    · exact Or.inl ⟨a, h1, e⟩
                    · right
                      have h2 := List.mem_singleton.1 h1
                      rw [← hga, ← h2]
                      exact e
                  clear hga hsS
                  cases b2 with
                  | true =>
                    go_wp2
                    go_quiet (fail)
                    go_wp2
                    go_roundw
                    case rel => exact ⟨true, s + 1, by omega, rfl, by go_num, HS.out.1.same ((Fr.refl _ _).drewN _), fun _ => rfl⟩
                    case measure => simp [intOf]; omega
                  | false =>
                    by_cases he : ga = gy
                    · have he1 : (ga == gy) = true := by simpa using he
                      go_wp2
                      go_quiet (fail)
                      go_wp2
                      go_roundw
                      case rel => exact ⟨true, s + 1, by omega, by first | rfl | simp [he], by go_num, HS.out.1.same ((Fr.refl _ _).drewN _), fun _ => rfl⟩
                      case measure => simp [intOf]; omega
                    · have he1 : (ga == gy) = false := by simpa using he
                      have HNe : Hid (¬ ga = gy) := he
                      go_wp2
                      go_quiet (fail)
                      go_wp2
                      go_roundw
                      case rel => exact ⟨false, s + 1, by omega, by first | rfl | simp [he], by go_num, HS.out.1.same ((Fr.refl _ _).drewN _), fun e => by
                        rcases e with e | e
                        · exact HS.out.2 (Or.inl e)
                        · rcases HTk.out e with e | e
                          · exact HS.out.2 (Or.inr e)
                          · exact absurd e HNe.out⟩
                      case measure => simp [intOf]; omega
                · have hss : s = k := by omega
                  subst hss
                  go_wp2
                  go_roundw
                  case rel => exact ⟨b2, l + 1, by omega, rfl, by go_num, HS.out.1, fun e => HS.out.2 (by
                    rcases HSu.out.1 e with e | e | e
                    · exact Or.inl (Or.inl e)
                    · exact Or.inl (Or.inr e)
                    · exact Or.inr (by rw [← HK.out, List.take_length]; exact e))⟩
                  case measure => simp [intOf]; omega
        · have hll : l = kr := by omega
          subst hll
          have hb1 : b0 = true := HL.out.2 HCm.out
          subst hb1
          go_wp2
          go_roundw
          case rel => exact ⟨j + 1, by omega, by go_num, HL.out.1.1, HL.out.1.2.1, HL.out.1.2.2.1⟩
          case measure => simp [intOf]; omega
    · have hjj : j = m := by omega
      subst hjj
      go_wp2
      go_ret
      exact ⟨rfl, HJ.out.1.2.1⟩
end Go.Proofs.YthdhegmlknpllabGreatDoor
