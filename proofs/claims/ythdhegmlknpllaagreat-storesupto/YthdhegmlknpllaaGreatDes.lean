/-
  The walk of Destroy (24).
-/
import Derived.Test.YthdhegmlknpllaaGreatRem
namespace Go.Proofs.YthdhegmlknpllaaGreat
open Go.RowKit Go.Maps Go.MuLone

def isG (g : Int) (x : Sn) : Bool := x.guid == g
def fineAt (ss : List Sn) (zs : List Int) (k : Nat) : Bool := ss.any (isG (tm zs k)) && !((zs.take k).any fun x => tm zs k == x)
def heldAt (ss : List Sn) (zs : List Int) (k : Nat) : Bool := ss.any fun x => isG (tm zs k) x && decide (x.holds > 0)
/-- Those that are not named. -/
def left (ss : List Sn) (zs : List Int) : List Sn := ss.filter fun x => !(zs.any fun z => isG z x)

theorem uniq_held {ss : List Sn} (hu : (ss.map Sn.guid).Nodup) {g : Int} {j : Nat} (hj : j < ss.length) (hg : isG g ss[j] = true) (p : Sn → Bool) : (ss.any fun x => isG g x && p x) = p ss[j] := by
  cases hp : p ss[j]
  · rw [List.any_eq_false]
    intro x hx h
    obtain ⟨i, hi, rfl⟩ := List.getElem_of_mem hx
    simp only [Bool.and_eq_true] at h
    have e : i = j := by
      have h1 : ss[i].guid = g := by simpa [isG] using h.1
      have h2 : ss[j].guid = g := by simpa [isG] using hg
      exact (List.getElem_inj (h₀ := by simpa using hi) (h₁ := by simpa using hj) hu).1 (by simp [h1, h2])
    subst e
    rw [hp] at h
    simp at h
  · rw [List.any_eq_true]
    exact ⟨ss[j], List.getElem_mem hj, by simp [hg, hp]⟩

theorem erase_filter : ∀ (l : List Sn) (g : Int) (j : Nat) (hj : j < l.length), (l.map Sn.guid).Nodup → isG g l[j] = true → l.eraseIdx j = l.filter fun x => !(isG g x)
  | [], _, _, h, _, _ => by simp at h
  | x :: r, g, 0, _, hu, hg => by
    simp only [List.getElem_cons_zero] at hg
    simp only [List.map_cons, List.nodup_cons] at hu
    have h1 : x.guid = g := by simpa [isG] using hg
    rw [List.eraseIdx_cons_zero, List.filter_cons_of_neg (by simp [hg]), List.filter_eq_self.2]
    intro y hy
    have : y.guid ≠ g := fun e => hu.1 (by rw [h1, ← e]; exact List.mem_map_of_mem hy)
    simp [isG, this]
  | x :: r, g, j + 1, hj, hu, hg => by
    simp only [List.getElem_cons_succ] at hg
    simp only [List.map_cons, List.nodup_cons] at hu
    have hj' : j < r.length := by simpa using hj
    have h2 : r[j].guid = g := by simpa [isG] using hg
    have h1 : x.guid ≠ g := fun e => hu.1 (by rw [e, ← h2]; exact List.mem_map_of_mem (List.getElem_mem _))
    rw [List.eraseIdx_cons_succ, List.filter_cons_of_pos (by simp [isG, h1]), erase_filter r g j (by simpa using hj) hu.2 hg]

theorem left_succ (ss : List Sn) (zs : List Int) (k : Nat) (hk : k < zs.length) : left ss (zs.take (k + 1)) = (left ss (zs.take k)).filter fun x => !(isG (tm zs k) x) := by
  unfold left
  rw [List.filter_filter]
  congr 1
  funext x
  have ht : tm zs k = zs[k] := by simp [tm, hk]
  rw [List.take_succ_eq_append_getElem hk, List.any_append, ht]
  cases (zs.take k).any (fun z => isG z x) <;> simp

theorem left_nodup {ss : List Sn} (hu : (ss.map Sn.guid).Nodup) (zs : List Int) : ((left ss zs).map Sn.guid).Nodup := by
  unfold left
  exact List.Nodup.sublist (List.Sublist.map _ List.filter_sublist) hu

/-- The next one to go is still there. -/
theorem left_has {ss : List Sn} {zs : List Int} {k : Nat} (hf : fineAt ss zs k = true) : ∃ x ∈ left ss (zs.take k), isG (tm zs k) x = true := by
  unfold fineAt at hf
  simp only [Bool.and_eq_true, Bool.not_eq_true'] at hf
  obtain ⟨x, hx, hg⟩ := List.any_eq_true.1 hf.1
  refine ⟨x, ?_, hg⟩
  unfold left
  rw [List.mem_filter]
  refine ⟨hx, ?_⟩
  have hxg : x.guid = tm zs k := by simpa [isG] using hg
  simp only [Bool.not_eq_true', List.any_eq_false]
  intro z hz
  have := (List.any_eq_false.1 hf.2) z hz
  simp [isG, hxg]
  intro e
  exact this (by simp [e])

theorem tm_get (zs : List Int) (k : Nat) (h : k < zs.length) : tm zs k = zs[k] := by simp [tm, h]

theorem left_nil (ss : List Sn) : left ss [] = ss := by simp [left]

/-- What a Destroy stands as. -/
def gtext (zs : List Int) : ByteArray := zs.foldl (fun a z => a ++ (n4 z).ba) ⟨#[]⟩
theorem gtext_succ (zs : List Int) (k : Nat) (h : k < zs.length) : gtext (zs.take (k + 1)) = gtext (zs.take k) ++ (n4 (tm zs k)).ba := by
  unfold gtext
  rw [List.take_succ_eq_append_getElem h, List.foldl_append, tm_get zs k h]
  rfl
theorem gtext_size : ∀ (zs : List Int) (a : ByteArray), (zs.foldl (fun a z => a ++ (n4 z).ba) a).size = a.size + 4 * zs.length
  | [], a => by simp
  | z :: r, a => by
    rw [List.foldl_cons, gtext_size r, ByteArray.size_append]
    have e : (n4 z).ba.size = 4 := rfl
    simp only [e, List.length_cons]
    omega
theorem gtext_len (zs : List Int) : (gtext zs).size = 4 * zs.length := by
  unfold gtext
  rw [gtext_size]
  have e : (⟨#[]⟩ : ByteArray).size = 0 := rfl
  rw [e]
  omega

theorem nodup_le : ∀ (l l' : List Int), l.Nodup → (∀ x ∈ l, x ∈ l') → l.length ≤ l'.length
  | [], _, _, _ => Nat.zero_le _
  | a :: l, l', hn, hs => by
    rw [List.nodup_cons] at hn
    have ha : a ∈ l' := hs a List.mem_cons_self
    have := nodup_le l (l'.erase a) hn.2 (fun x hx => (List.mem_erase_of_ne (fun e : x = a => hn.1 (by rw [← e]; exact hx))).2 (hs x (List.mem_cons_of_mem _ hx)))
    rw [List.length_erase_of_mem ha] at this
    have h0 : 0 < l'.length := List.length_pos_of_mem ha
    rw [List.length_cons]
    omega
/-- As many as are all there, each once, are no more than there are. -/
theorem fine_len {ss : List Sn} {zs : List Int} (h : ∀ k, k < zs.length → fineAt ss zs k = true) : zs.length ≤ ss.length := by
  have h1 := nodup_le zs (ss.map Sn.guid) (by
    rw [List.Nodup, List.pairwise_iff_getElem]
    intro i j hi hj hij e
    have hf := h j hj
    unfold fineAt at hf
    rw [Bool.and_eq_true, Bool.not_eq_true'] at hf
    have h2 := List.any_eq_false.1 hf.2 zs[i] (List.mem_take_iff_getElem.2 ⟨i, by omega, rfl⟩)
    rw [tm_get zs j hj, e] at h2
    simp at h2) (fun x hx => by
    obtain ⟨k, hk, rfl⟩ := List.getElem_of_mem hx
    have hf := h k hk
    unfold fineAt at hf
    rw [Bool.and_eq_true] at hf
    obtain ⟨y, hy, e⟩ := List.any_eq_true.1 hf.1
    refine List.mem_map.2 ⟨y, hy, ?_⟩
    unfold isG at e
    rw [tm_get zs k hk] at e
    simpa using e)
  rwa [List.length_map] at h1

/-- What holds while they go. -/
def DesJ (B b : Nat) (s : Sto) (w wr : World) (sk : Sto) (zs : List Int) : Prop :=
  Rep B wr b 1 sk ∧ Fr (foot b s) w wr ∧ sk.ss = left s.ss zs ∧ sk.ms = s.ms ∧ sk.vol = s.vol ∧ sk.sv.ownBlock = s.sv.ownBlock ∧ foot b sk = foot b s ∧ (sk.id = s.id ∧ sk.came = s.came ∧ sk.taken = s.taken ∧ sk.cnt = s.cnt ∧ sk.log = s.log ∧ sk.lv = s.lv ∧ sk.mv = s.mv) ∧ (∀ g i, g ∉ zs → sk.th g i = s.th g i)

structure DesPost (B b : Nat) (s : Sto) (zs : List Int) (w w' : World) (s' : Sto) : Prop where
  foot : ∀ k ∈ YthdhegmlknpllaaGreat.foot b s', k ∈ YthdhegmlknpllaaGreat.foot b s ∨ w.heap.size ≤ k
  rep : Rep B w' b 0 s'
  ss : s'.ss = left s.ss zs
  ms : s'.ms = s.ms
  vol : s'.vol = s.vol
  id : s'.id = s.id
  came : s'.came = s.came
  taken : s'.taken = s.taken
  cnt : s'.cnt = s.cnt
  th : ∀ g i, g ∉ zs → s'.th g i = s.th g i
  log : s'.log = s.log ++ (if zs = [] then [] else entry 68 (gtext zs))
  mv : s'.mv = s.mv

set_option maxRecDepth 100000 in
set_option maxHeartbeats 3200000 in
theorem destroy_any (B b : Nat) (s : Sto) (ao : Option Addr) (zs : List Int) (cap : Nat) (w : World) (h : Rep B w b 0 s) (hl : s.ss.length ≤ 12) (hv : s.vol.length ≤ 16) (hu : (s.ss.map Sn.guid).Nodup) (hr : RowG w ao zs cap) (hz : zs.length ≤ 2000000) (hb : ∀ i, i < zs.length → In64 (tm zs i)) (hnf : ∀ k off, ao = some ⟨k, off, none⟩ → 0 < zs.length → k ∉ foot b s) (hlg : s.log.length ≤ 140000000000000) :
    Calls Tryz.prog 67 #[.pointer (some ⟨b, 0, none⟩), .slice ao zs.length cap] w fun e w' => Fr (foot b s) w w' ∧
      ((e = .returned (.int .i64 3) ∧ (∃ k, k < zs.length ∧ fineAt s.ss zs k = false) ∧ Rep B w' b 0 s) ∨
       (e = .returned (.int .i64 4) ∧ (∀ k, k < zs.length → fineAt s.ss zs k = true) ∧ (∃ k, k < zs.length ∧ heldAt s.ss zs k = true) ∧ Rep B w' b 0 s) ∨
       (e = .returned (.int .i64 0) ∧ (∀ k, k < zs.length → fineAt s.ss zs k = true) ∧ (∀ k, k < zs.length → heldAt s.ss zs k = false) ∧ ∃ s', DesPost B b s zs w w' s')) := by
  have R1 := h.lock 1
  obtain ⟨w1, hw1⟩ : ∃ w1, w.setCell ⟨b, 0, none⟩ (.int .i32 1) = w1 := ⟨_, rfl⟩
  rw [hw1] at R1
  have HL := lock_free Tryz.muLib ⟨b, 0, none⟩ w h.cells.1 (h.frozen 0)
  have F1 : Fr (foot b s) w w1 := by rw [← hw1]; exact fr_lock b s w _
  have HF : Hid (w.setCell ⟨b, 0, none⟩ (.int .i32 1) = w1 ∧ Rep B w1 b 1 s ∧ Fr (foot b s) w w1) := ⟨hw1, R1, F1⟩
  have HG : Hid (s.ss.length ≤ 12 ∧ s.vol.length ≤ 16 ∧ (s.ss.map Sn.guid).Nodup ∧ (∀ i, i < zs.length → In64 (tm zs i))) := ⟨hl, hv, hu, hb⟩
  have HRow : Hid (∀ W, Fr (foot b s) w W → RowG W ao zs cap) := fun W hW => by
    refine ⟨hr.1, fun h0 => ?_⟩
    obtain ⟨rb, off, e, hc⟩ := hr.2 h0
    refine ⟨rb, off, e, fun i hi => ?_⟩
    exact (World.cell?_of_block (hW.block rb (World.block_lt_of_cell? _ _ (hc i hi)) (hnf rb off e h0))).trans (hc i hi)
  have H1 : Hid (Rep B w1 b 1 s ∧ Fr (foot b s) w w1) := ⟨R1, F1⟩
  have hcap := hr.1
  clear h R1 F1 hw1 hl hv hu hr hb hnf
  go_enter_defers Tryz.func67, Tryz.ntmps67
  go_wp2_with (first
    | (go_at_call 23; refine HL.mono ?_; rintro e w' ⟨rfl, hw'⟩; rw [HF.out.1] at hw'; have hw' := hw'.symm; subst hw'))
  go_loopw [5, 21] (fun hd i wr => ∃ (k : Nat) (f : Bool), k ≤ zs.length ∧ i = .int .i64 k ∧ hd = .bool f ∧ Hid (Rep B wr b 1 s ∧ Fr (foot b s) w wr ∧ (∀ j, j < k → fineAt s.ss zs j = true) ∧ f = (List.range k).any (heldAt s.ss zs))) (fun _ i _ => zs.length - (intOf i).toNat)
  case atStart => exact ⟨0, false, Nat.zero_le _, rfl, rfl, H1.out.1, H1.out.2, fun j hj => by omega, rfl⟩
  case round =>
    obtain ⟨k, f, hk, rfl, rfl, HK⟩ := hrel
    obtain ⟨W3, hW3⟩ : ∃ W3, W3 = wr := ⟨_, rfl⟩
    subst hW3
    clear H1
    by_cases hlt : k < zs.length
    · obtain ⟨rb, off, hao, hc⟩ := (HRow.out W3 HK.out.2.1).2 (by omega)
      subst hao
      have d1 := hc k hlt
      obtain ⟨g, hg⟩ : ∃ g, tm zs k = g := ⟨_, rfl⟩
      have HGg : Hid (tm zs k = g) := hg
      rw [hg] at d1
      have hltz : (k : Int) < (zs.length : Int) := by omega
      have hltc : (k : Int) ≤ (cap : Int) := by omega
      have hS := findSnapshot_any B b 1 s g W3 HK.out.1 (by have := HG.out.1; omega)
      clear hc hg
      by_cases hfd : ∃ x ∈ s.ss, (x.guid == g) = true
      · obtain ⟨j, hj, e0, hgj⟩ := fi_some s.ss 0 hfd
        rw [e0, Nat.zero_add] at hS
        have HC : Hid (∀ W, Fr (foot b s) w W → Calls Tryz.prog 101 #[.slice (some ⟨rb, off, none⟩) k cap, .int .i64 g] W fun e w' => e = .returned (.bool ((zs.take k).any fun x => g == x)) ∧ w' = W) := fun W hW => by
          have hrt := (HRow.out W hW).take k hk
          have hlk : (zs.take k).length = k := by rw [List.length_take]; omega
          have := contains48 (some ⟨rb, off, none⟩) (zs.take k) cap g W hrt (by omega)
          rw [hlk] at this
          exact this
        have HJ : Hid (∃ hj : j < s.ss.length, isG g s.ss[j] = true) := ⟨hj, hgj⟩
        have j0 : ¬ ((j : Int) < 0) := by omega
        clear e0 hgj hj hfd
        cases hdup : ((zs.take k).any fun x => g == x)
        · rw [hdup] at HC
          have HB : Hid (fineAt s.ss zs k = true) := by
            show _ = _
            unfold fineAt
            rw [HGg.out, hdup]
            obtain ⟨hj, hgj⟩ := HJ.out
            have : s.ss.any (isG g) = true := List.any_eq_true.2 ⟨_, List.getElem_mem hj, hgj⟩
            rw [this]
            rfl
          obtain ⟨x, hx⟩ : ∃ x, s.ss[j]? = some x := ⟨_, List.getElem?_eq_getElem HJ.out.1⟩
          have HX : Hid (s.ss[j]? = some x ∧ j < s.ss.length ∧ heldAt s.ss zs k = decide (x.holds > 0)) := by
            obtain ⟨hj, hgj⟩ := HJ.out
            refine ⟨hx, hj, ?_⟩
            unfold heldAt
            rw [HGg.out, uniq_held HG.out.2.2.1 hj hgj (fun x => decide (x.holds > 0))]
            rw [List.getElem?_eq_getElem hj] at hx
            simp at hx
            rw [hx]
          obtain ⟨sao, scap, hsv⟩ := own_shape HK.out.1.ss
          have hso := HK.out.1.ss
          rw [hsv] at hso
          obtain ⟨gg, hgg, hscap, _⟩ := own_addr hso (by have := HX.out.2.1; omega)
          subst hgg
          obtain ⟨n, hn⟩ : ∃ n, s.ss.length = n := ⟨_, rfl⟩
          have HV : Hid (s.sv = .slice (some ⟨gg, 0, none⟩) n scap ∧ s.ss.length = n) := ⟨by rw [hsv, hn], hn⟩
          have hjn : (j : Int) < (n : Int) := by have := HX.out.2.1; omega
          have hjn' : j < n := by omega
          rw [hn] at hscap
          clear hx hso hsv hn hdup
          have HR3 : Hid (∀ W, Rep B W b 1 s → W.cell? ⟨b, 4, none⟩ = some (.slice (some ⟨gg, 0, none⟩) n scap) ∧ W.cell? ⟨gg, j * 4 + 2, none⟩ = some (.int .i64 x.holds)) := fun W hW => by
            refine ⟨by rw [← HV.out.1]; exact hW.cells.2.2.2.1, ?_⟩
            have h1 := hW.ss
            rw [HV.out.1, HV.out.2] at h1
            obtain ⟨g', e', _, hc⟩ := own_addr h1 (by omega)
            have : g' = gg := by simpa using e'.symm
            subst this
            rw [hc _ (by omega), (snC_get s.ss j HX.out.2.1).2.2.1]
            have h3 := HX.out.1
            rw [List.getElem?_eq_getElem HX.out.2.1] at h3
            simp at h3
            rw [h3]
          have HNx : Hid (∀ W f', Rep B W b 1 s → Fr (foot b s) w W → f' = (f || decide (x.holds > 0)) → (Rep B W b 1 s ∧ Fr (foot b s) w W ∧ (∀ j, j < k + 1 → fineAt s.ss zs j = true) ∧ f' = (List.range (k + 1)).any (heldAt s.ss zs))) := fun W f' hW hF hf' => by
            refine ⟨hW, hF, fun i hi => ?_, ?_⟩
            · by_cases hik : i < k
              · exact HK.out.2.2.1 i hik
              · have : i = k := by omega
                rw [this]
                exact HB.out
            · rw [hf', List.range_succ, List.any_append, ← HK.out.2.2.2]
              simp [HX.out.2.2]
          obtain ⟨hd, hhd⟩ : ∃ hd, x.holds = hd := ⟨_, rfl⟩
          rw [hhd] at HR3 HNx
          clear hhd HX
          cases f
          · by_cases hpos : 0 < hd
            · have hp1 : decide (hd > 0) = true := by simpa using hpos
              go_wp2_with (first
                | (go_at_call 65; refine hS.mono ?_; rintro e w2 ⟨rfl, hfr⟩
                   have HR2 : Hid (Rep B w2 b 1 s ∧ Fr (foot b s) w w2) := ⟨HK.out.1.kept0 hfr, HK.out.2.1.trans hfr (by simp)⟩
                   have c4 := (HR3.out _ HR2.out.1).1
                   have d4 := (HR3.out _ HR2.out.1).2
                   have HN2 : Hid _ := HNx.out w2 true HR2.out.1 HR2.out.2 (by rw [hp1]; rfl)
                   clear hfr)
                | (go_at_call 101; refine (HC.out _ HR2.out.2).mono ?_; rintro e w' ⟨rfl, hw'⟩; have hw' := hw'.symm; subst hw'))
              go_roundw
              case rel => exact ⟨k + 1, true, by omega, by go_num, by first | rfl | trivial | simp [hpos], HN2.out⟩
              case measure => simp [intOf]; omega
            · have hp1 : decide (hd > 0) = false := by simpa using hpos
              go_wp2_with (first
                | (go_at_call 65; refine hS.mono ?_; rintro e w2 ⟨rfl, hfr⟩
                   have HR2 : Hid (Rep B w2 b 1 s ∧ Fr (foot b s) w w2) := ⟨HK.out.1.kept0 hfr, HK.out.2.1.trans hfr (by simp)⟩
                   have c4 := (HR3.out _ HR2.out.1).1
                   have d4 := (HR3.out _ HR2.out.1).2
                   have HN2 : Hid _ := HNx.out w2 false HR2.out.1 HR2.out.2 (by rw [hp1]; rfl)
                   clear hfr)
                | (go_at_call 101; refine (HC.out _ HR2.out.2).mono ?_; rintro e w' ⟨rfl, hw'⟩; have hw' := hw'.symm; subst hw'))
              go_roundw
              case rel => exact ⟨k + 1, false, by omega, by go_num, by first | rfl | trivial | simp [hpos], HN2.out⟩
              case measure => simp [intOf]; omega
          · go_wp2_with (first
              | (go_at_call 65; refine hS.mono ?_; rintro e w2 ⟨rfl, hfr⟩
                 have HR2 : Hid (Rep B w2 b 1 s ∧ Fr (foot b s) w w2) := ⟨HK.out.1.kept0 hfr, HK.out.2.1.trans hfr (by simp)⟩
                 have HN2 : Hid _ := HNx.out w2 true HR2.out.1 HR2.out.2 (by rfl)
                 clear hfr)
              | (go_at_call 101; refine (HC.out _ HR2.out.2).mono ?_; rintro e w' ⟨rfl, hw'⟩; have hw' := hw'.symm; subst hw'))
            go_roundw
            case rel => exact ⟨k + 1, true, by omega, by go_num, by first | rfl | trivial, HN2.out⟩
            case measure => simp [intOf]; omega
        · rw [hdup] at HC
          have HB : Hid (fineAt s.ss zs k = false) := by show _ = _; unfold fineAt; rw [HGg.out, hdup]; simp
          clear hdup
          go_wp2_with (first
            | (go_at_call 65; refine hS.mono ?_; rintro e w2 ⟨rfl, hfr⟩
               have HR2 : Hid (Rep B w2 b 1 s ∧ Fr (foot b s) w w2) := ⟨HK.out.1.kept0 hfr, HK.out.2.1.trans hfr (by simp)⟩
               clear hfr)
            | (go_at_call 101; refine (HC.out _ HR2.out.2).mono ?_; rintro e w' ⟨rfl, hw'⟩; have hw' := hw'.symm; subst hw'))
          refine leaves_cons (f := 24) (args := #[.pointer (some ⟨b, 0, none⟩)]) (by simp) (by simp [go_sem]) ?_
          refine (unlock_deferred Tryz.muLib ⟨b, 0, none⟩ .returning _ HR2.out.1.cells.1 (HR2.out.1.frozen 0)).mono ?_
          rintro e u' w'' ⟨rfl, rfl, rfl⟩
          exact ⟨_, results_tmp rfl _ _ _, HR2.out.2.setCell _ (Or.inl (by simp [foot])), Or.inl ⟨rfl, ⟨k, hlt, HB.out⟩, HR2.out.1.lock 0⟩⟩
      · rw [fi_none s.ss 0 (fun x hx => by cases hp : (x.guid == g); rfl; exact absurd ⟨x, hx, hp⟩ hfd)] at hS
        have HB : Hid (fineAt s.ss zs k = false) := by
          show _ = _
          unfold fineAt
          rw [HGg.out]
          have : s.ss.any (isG g) = false := by
            rw [List.any_eq_false]
            intro x hx hp
            exact hfd ⟨x, hx, hp⟩
          rw [this]
          rfl
        clear hfd
        go_wp2_with (first
          | (go_at_call 65; refine hS.mono ?_; rintro e w2 ⟨rfl, hfr⟩
             have HR2 : Hid (Rep B w2 b 1 s ∧ Fr (foot b s) w w2) := ⟨HK.out.1.kept0 hfr, HK.out.2.1.trans hfr (by simp)⟩
             clear hfr))
        refine leaves_cons (f := 24) (args := #[.pointer (some ⟨b, 0, none⟩)]) (by simp) (by simp [go_sem]) ?_
        refine (unlock_deferred Tryz.muLib ⟨b, 0, none⟩ .returning _ HR2.out.1.cells.1 (HR2.out.1.frozen 0)).mono ?_
        rintro e u' w'' ⟨rfl, rfl, rfl⟩
        exact ⟨_, results_tmp rfl _ _ _, HR2.out.2.setCell _ (Or.inl (by simp [foot])), Or.inl ⟨rfl, ⟨k, hlt, HB.out⟩, HR2.out.1.lock 0⟩⟩
    · have hkk : k = zs.length := by omega
      subst hkk
      cases f
      · have HNo : Hid (∀ k, k < zs.length → heldAt s.ss zs k = false) := fun i hi => by
          have := HK.out.2.2.2
          have h2 := List.any_eq_false.1 this.symm i (by simpa using hi)
          simpa using h2
        have HJ0 : Hid (DesJ B b s w W3 s (zs.take 0)) := ⟨HK.out.1, HK.out.2.1, (left_nil _).symm, rfl, rfl, rfl, rfl, ⟨rfl, rfl, rfl, rfl, rfl, rfl, rfl⟩, fun _ _ _ => rfl⟩
        have HFine : Hid (∀ k, k < zs.length → fineAt s.ss zs k = true) := HK.out.2.2.1
        have hz12 : zs.length ≤ 20 := by have h8 := fine_len HFine.out; have h9 := HG.out.1; omega
        clear HK
        go_wp2
        go_loopw [9, 55] (fun tl i wr => ∃ (m : Nat) (sk : Sto) (t : ByteArray), m ≤ zs.length ∧ i = .int .i64 m ∧ tl = .string t ∧ t.size = 4 * m ∧ Hid (DesJ B b s w wr sk (zs.take m) ∧ t = gtext (zs.take m))) (fun _ i _ => zs.length - (intOf i).toNat)
        case atStart => exact ⟨0, s, ⟨#[]⟩, Nat.zero_le _, rfl, rfl, rfl, HJ0.out, rfl⟩
        case round =>
          obtain ⟨m, sk, t, hm, rfl, rfl, ht, HM⟩ := hrel
          obtain ⟨W6, hW6⟩ : ∃ W6, W6 = wr := ⟨_, rfl⟩
          subst hW6
          clear HJ0
          by_cases hlm : m < zs.length
          · obtain ⟨rb, off, hao, hc⟩ := (HRow.out W6 HM.out.1.2.1).2 (by omega)
            subst hao
            have d1 := hc m hlm
            obtain ⟨g, hg⟩ : ∃ g, tm zs m = g := ⟨_, rfl⟩
            have hin := HG.out.2.2.2 m hlm
            obtain ⟨r6, f6, e6, m6, v6, o6, t6, _, _⟩ := HM.out.1
            have hex := left_has (HFine.out m hlm)
            rw [← e6] at hex
            obtain ⟨j, hj, ej, hgj⟩ := fi_some sk.ss 0 hex
            rw [Nat.zero_add] at ej
            have hlen : sk.ss.length ≤ 12 := by
              rw [e6]
              exact Nat.le_trans (List.length_filter_le _ _) HG.out.1
            have hR := remove_any B b 1 sk (tm zs m) j W6 r6 hlen ej hj hin (by rw [v6]; exact HG.out.2.1)
            have hnd : (sk.ss.map Sn.guid).Nodup := by rw [e6]; exact left_nodup HG.out.2.2.1 _
            have her := erase_filter sk.ss (tm zs m) j hj hnd hgj
            have HE : Hid (sk.ss.eraseIdx j = left s.ss (zs.take (m + 1))) := by
              show _ = _
              rw [her, left_succ s.ss zs m hlm, e6]
            rw [hg] at d1 hR
            have HU := number_any g
            have HT9 : Hid (gtext (zs.take (m + 1)) = t ++ (n4 g).ba) := by
              show _ = _
              rw [gtext_succ zs m hlm, hg, HM.out.2]
            have hz4 : (n4 g).ba.size = 4 := rfl
            obtain ⟨ba, hba⟩ : ∃ ba, (n4 g).ba = ba := ⟨_, rfl⟩
            rw [hba] at HU HT9 hz4
            have HU' : Hid (∀ W, Calls Tryz.prog 22 #[.int .i64 g] W fun e w' => e = .returned (.string ba) ∧ Fr [] W w') := HU
            have HGm : Hid (tm zs m = g) := hg
            clear HU hba hg
            have hltz : (m : Int) < (zs.length : Int) := by omega
            clear hc hex ej hj hgj hnd her hin hlen r6 f6 e6 m6 v6 o6 t6
            go_wp2_with (first
              | (go_at_call 102; refine hR.mono ?_; rintro e w7 ⟨rfl, sv7, r7, f7, o7⟩
                 have H7 : Hid (DesJ B b s w w7 (sk.rem g j sv7 sk.vol.length) (zs.take (m + 1))) := by
                   obtain ⟨r6, f6, e6, m6, v6, o6, t6, k6, h6⟩ := HM.out.1
                   refine ⟨r7, f6.trans f7 (fun x hx => Or.inl (by rw [← t6]; exact hx)), HE.out, m6, v6, o7.trans o6, ?_, k6, fun g' i' hg' => ?_⟩
                   · rw [← t6]
                     simp only [foot, Sto.rem, o7]
                   · rw [List.take_succ_eq_append_getElem hlm, List.mem_append] at hg'
                     have hne : ¬ g' = g := fun e => hg' (Or.inr (by rw [e, ← HGm.out, tm_get zs m hlm]; simp))
                     simp only [Sto.rem]
                     rw [if_neg (fun h => hne h.1)]
                     exact h6 g' i' (fun h => hg' (Or.inl h))
                 clear r7 f7 o7)
              | (go_at_call 22; refine (HU'.out _).mono ?_; rintro e w8 ⟨rfl, f8⟩
                 have H8 : Hid (DesJ B b s w w8 (sk.rem g j sv7 sk.vol.length) (zs.take (m + 1))) := by
                   obtain ⟨r6, f6, rest⟩ := H7.out
                   exact ⟨r6.kept0 f8, f6.trans f8 (by simp), rest⟩
                 clear f8))
            go_roundw
            case rel => exact ⟨m + 1, _, t ++ ba, by omega, by go_num, rfl, by rw [ByteArray.size_append, ht, hz4]; omega, H8.out, HT9.out.symm⟩
            case measure => simp [intOf]; omega
          · have hmm : m = zs.length := by omega
            subst hmm
            have hM := HM.out.1
            rw [List.take_length] at hM
            have hT := HM.out.2
            rw [List.take_length] at hT
            have H6 : Hid (DesJ B b s w W6 sk zs ∧ t = gtext zs) := ⟨hM, hT⟩
            clear hM hT HM
            by_cases hz0 : zs.length = 0
            · have hzn : zs = [] := List.eq_nil_of_length_eq_zero hz0
              have htn : t = ⟨#[]⟩ := by
                have := H6.out.2
                rw [hzn] at this
                exact this
              subst htn
              go_wp2
              refine leaves_cons (f := 24) (args := #[.pointer (some ⟨b, 0, none⟩)]) (by simp) (by simp [go_sem]) ?_
              obtain ⟨r6, f6, e6, m6, v6, o6, t6, k6, h6⟩ := H6.out.1
              refine (unlock_deferred Tryz.muLib ⟨b, 0, none⟩ .returning _ r6.cells.1 (r6.frozen 0)).mono ?_
              rintro e u' w'' ⟨rfl, rfl, rfl⟩
              exact ⟨_, results_tmp rfl _ _ _, f6.setCell _ (Or.inl (by simp [foot])), Or.inr (Or.inr ⟨rfl, HFine.out, HNo.out, sk, ⟨fun k hk => Or.inl (by rw [← t6]; exact hk), r6.lock 0, e6, m6, v6, k6.1, k6.2.1, k6.2.2.1, k6.2.2.2.1, h6, by rw [k6.2.2.2.2.1, if_pos hzn]; simp, k6.2.2.2.2.2.2⟩⟩)⟩
            · have HNt : Hid (Calls Tryz.prog 21 #[.pointer (some ⟨b, 0, none⟩), .int .u8 68, .string t] W6 fun e w' => e = .returned (.tuple #[]) ∧ ∃ lv, Rep B w' b 1 (sk.noted 68 t lv) ∧ Fr (foot b sk) W6 w' ∧ (∀ k, lv.ownBlock = some k → sk.lv.ownBlock = some k ∨ W6.heap.size ≤ k)) := note_any B b 1 sk 68 t W6 H6.out.1.1 (by omega) (by rw [H6.out.1.2.2.2.2.2.2.2.1.2.2.2.2.1]; exact hlg)
              have hte : t.toList.isEmpty = false := by
                rw [ByteArray.toList_eq, List.isEmpty_eq_false_iff]
                intro e
                have e2 : t.data.toList.length = t.size := Array.length_toList
                rw [e, ht] at e2
                simp at e2
                omega
              go_wp2_with (go_at_call 21; refine HNt.out.mono ?_; rintro e w9 ⟨rfl, lv, r9, f9, a9⟩; have H9 : Hid (Rep B w9 b 1 (sk.noted 68 t lv) ∧ Fr (foot b sk) W6 w9 ∧ (∀ k, lv.ownBlock = some k → sk.lv.ownBlock = some k ∨ W6.heap.size ≤ k)) := ⟨r9, f9, a9⟩; clear r9 f9 a9)
              refine leaves_cons (f := 24) (args := #[.pointer (some ⟨b, 0, none⟩)]) (by simp) (by simp [go_sem]) ?_
              obtain ⟨r6, f6, e6, m6, v6, o6, t6, k6, h6⟩ := H6.out.1
              refine (unlock_deferred Tryz.muLib ⟨b, 0, none⟩ .returning _ H9.out.1.cells.1 (H9.out.1.frozen 0)).mono ?_
              rintro e u' w'' ⟨rfl, rfl, rfl⟩
              have f9 : Fr (foot b s) w w9 := f6.trans H9.out.2.1 (fun k hk => Or.inl (by rw [← t6]; exact hk))
              refine ⟨_, results_tmp rfl _ _ _, f9.setCell _ (Or.inl (by simp [foot])), Or.inr (Or.inr ⟨rfl, HFine.out, HNo.out, sk.noted 68 t lv, ⟨fun k hk => ?_, H9.out.1.lock 0, e6, m6, v6, k6.1, k6.2.1, k6.2.2.1, k6.2.2.2.1, h6, ?_, k6.2.2.2.2.2.2⟩⟩)⟩
              · rw [← t6]
                simp only [foot, Sto.noted, List.mem_append, List.mem_cons, List.not_mem_nil, or_false, Option.mem_toList] at hk ⊢
                rcases hk with h1 | h1
                · exact Or.inl (Or.inl h1)
                · rcases H9.out.2.2 k h1 with h2 | h2
                  · exact Or.inl (Or.inr h2)
                  · exact Or.inr (Nat.le_trans f6.size h2)
              · rw [if_neg (fun e => hz0 (by rw [e]; rfl))]
                simp only [Sto.noted]
                rw [k6.2.2.2.2.1, H6.out.2]
      · have HYes : Hid (∃ k, k < zs.length ∧ heldAt s.ss zs k = true) := by
          have := HK.out.2.2.2
          obtain ⟨i, hi, h2⟩ := List.any_eq_true.1 this.symm
          exact ⟨i, by simpa using hi, h2⟩
        go_wp2
        refine leaves_cons (f := 24) (args := #[.pointer (some ⟨b, 0, none⟩)]) (by simp) (by simp [go_sem]) ?_
        refine (unlock_deferred Tryz.muLib ⟨b, 0, none⟩ .returning _ HK.out.1.cells.1 (HK.out.1.frozen 0)).mono ?_
        rintro e u' w'' ⟨rfl, rfl, rfl⟩
        exact ⟨_, results_tmp rfl _ _ _, HK.out.2.1.setCell _ (Or.inl (by simp [foot])), Or.inr (Or.inl ⟨rfl, HK.out.2.2.1, HYes.out, HK.out.1.lock 0⟩)⟩
end Go.Proofs.YthdhegmlknpllaaGreat
