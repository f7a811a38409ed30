/-
  The walk of tether/grid.Keep (6) where it answers.
-/
import Derived.Test.YtikbfhhkkplpbaaKeep
namespace Go.Proofs.Ytikbfhhkkplpbaa
open Go.RowKit Pl

theorem encO_row {w : World} {base g n : Nat} {o : List Nat} (hl : o.length = n) (h : w.ownsRow base 3 1 (.slice (some ⟨g, 0, none⟩) n n) n (encO o)) : RowI w (some ⟨g, 0, none⟩) (oz o) n := by
  refine ⟨by rw [oz_len, hl]; exact Nat.le_refl _, fun _ => ⟨g, 0, rfl, fun i hi => ?_⟩⟩
  rw [oz_len] at hi
  rw [Nat.zero_add, h.cellAt i (by omega), oz_tm o i hi]
  simp [encO, hi]

theorem bs_nil (n : Nat) : (madeCells (Value.bool false).cells (n * 1)).toList = bs n [] := by
  apply List.ext_getElem
  · simp [madeCells, bs]
  · intro i h1 h2
    simp [madeCells, bs, Value.cells, Nat.mod_one]

theorem ordN_len (zs : List Int) : (ordN zs).length = zs.length := by simp [ordN, srt_len]
theorem ordN_lt (zs : List Int) : ∀ p ∈ ordN zs, p < zs.length := fun _ hp => List.mem_range.1 ((ordN_ord zs).perm.mem_iff.1 hp)

/-- What holds while the places are marked: the order lies at g1, the marks at G. -/
def KI (w : World) (g1 G n : Nat) (o S : List Nat) (wr : World) : Prop :=
  Below w.heap.size w wr ∧ wr.ownsRow G 4 1 (.slice (some ⟨G, 0, none⟩) n n) n (bs n S) ∧ wr.ownsRow w.heap.size 3 1 (.slice (some ⟨g1, 0, none⟩) n n) n (encO o) ∧ w.heap.size ≤ g1 ∧ g1 < G

theorem KI.mark {w : World} {g1 G n : Nat} {o S : List Nat} {wr : World} (h : KI w g1 G n o S wr) (p : Nat) : KI w g1 G n o (S ++ [p]) (wr.setCell ⟨G, p, none⟩ (.bool true)) := by
  obtain ⟨h1, h2, h3, h4, h5⟩ := h
  refine ⟨h1.setCell (by show w.heap.size ≤ G; omega) _, ?_, ownsRow_setCell_other h3 (by simp [Value.ownBlock]; omega) _, h4, h5⟩
  have := (h2.stored p (.bool true)).1
  rwa [bs_set] at this
theorem KI.alloc {w : World} {g1 G n : Nat} {o S : List Nat} {wr : World} (h : KI w g1 G n o S wr) (x : Obj) : KI w g1 G n o S (wr.alloc x) :=
  ⟨h.1.alloc h.1.size _, h.2.1.alloc _, h.2.2.1.alloc _, h.2.2.2⟩
theorem KI.drewN {w : World} {g1 G n : Nat} {o S : List Nat} {wr : World} (h : KI w g1 G n o S wr) (m : Nat) : KI w g1 G n o S (wr.drewN m) :=
  ⟨bdn h.1 m, h.2.1, h.2.2.1, h.2.2.2⟩
theorem KI.rule {w : World} {g1 G n : Nat} {o S S' : List Nat} {wr w' : World} (h : KI w g1 G n o S wr) (h' : w'.ownsRow G 4 1 (.slice (some ⟨G, 0, none⟩) n n) n (bs n S')) (hg : wr.grownBy w' (some G)) : KI w g1 G n o S' w' := by
  obtain ⟨h1, h2, h3, h4, h5⟩ := h
  exact ⟨h1.grown hg h1.size (fun k e => by cases e; omega), h', h3.kept hg (Or.inr (by simp [Value.ownBlock]; omega)), h4, h5⟩
theorem KI.place {w : World} {g1 G n : Nat} {o S : List Nat} {wr : World} (h : KI w g1 G n o S wr) (k : Nat) (hk : k < o.length) : wr.cell? ⟨g1, k, none⟩ = some (.int .i64 (o[k] : Int)) := by
  have hl : o.length = n := by have := h.2.2.1.1; simpa [encO] using this
  rw [h.2.2.1.cellAt k (by omega)]
  simp [encO, hk]
theorem KI.seat {w : World} {g1 G n : Nat} {o S : List Nat} {wr : World} (h : KI w g1 G n o S wr) (p : Nat) (hp : p < n) : (∃ u, wr.cell? ⟨G, p, none⟩ = some u) ∧ wr.frozen? ⟨G, p, none⟩ = false :=
  ⟨by rw [h.2.1.cellAt p (by omega)]; exact ⟨_, List.getElem?_eq_getElem (by rw [bs_len]; exact hp)⟩, h.2.1.frozenAt _⟩
theorem KI.order {w : World} {g1 G n : Nat} {o S : List Nat} {wr : World} (h : KI w g1 G n o S wr) : RowI wr (some ⟨g1, 0, none⟩) (oz o) n :=
  encO_row (by have := h.2.2.1.1; simpa [encO] using this) h.2.2.1

theorem take_next (o : List Nat) (k : Nat) (h : k < o.length) : o.take k ++ [o[k]] = o.take (k + 1) := (List.take_succ_eq_append_getElem h).symm
theorem take_fut (now : Int) (zs : List Int) : ∀ o : List Nat, o.take (fut now zs o) = o.takeWhile (fun p => decide (now < tm zs p)) ∧ o.drop (fut now zs o) = o.dropWhile (fun p => decide (now < tm zs p))
  | [] => by simp [fut]
  | p :: o => by
    have ih := take_fut now zs o
    unfold fut at ih ⊢
    cases h : decide (now < tm zs p) with
    | true => simp [h, ih]
    | false => simp [h]

theorem take_last (o : List Nat) (L m : Nat) (h : L = min m o.length) : o.take L = o.take m := by
  by_cases hm : m ≤ o.length
  · rw [h, Nat.min_eq_left hm]
  · rw [h, Nat.min_eq_right (by omega), List.take_of_length_le (Nat.le_refl _), List.take_of_length_le (by omega)]

theorem fut_old {now : Int} {zs : List Int} {o : List Nat} (h : Ord zs o) (p : Nat) (hp : p ∈ o.drop (fut now zs o)) : tm zs p ≤ now := by
  rw [(take_fut now zs o).2] at hp
  have hpw : o.Pairwise (fun a b => (fun p => decide (now < tm zs p)) b = true → (fun p => decide (now < tm zs p)) a = true) :=
    h.desc.imp fun {a b} hab hb => by have := nw_ge zs a b hab; simp at hb ⊢; omega
  rw [dw_filter hpw] at hp
  have := (List.mem_filter.1 hp).2
  simpa using this

theorem okT_tm {zs : List Int} (h : zs.all okT = true) (p : Nat) (hp : p < zs.length) : 0 ≤ tm zs p ∧ tm zs p ≤ 1073741824 := by
  have := List.all_eq_true.1 h zs[p] (List.getElem_mem hp)
  simp only [okT, Bool.and_eq_true, decide_eq_true_eq] at this
  have e : tm zs p = zs[p] := by simp [tm, hp]
  rw [e]; exact this

theorem KI.ruled {now : Int} {a1 : Option Addr} {zs : List Int} {o : List Nat} {c1 g1 G : Nat} {S : List Nat} {w W : World} {c q : Int} (h1 : RowI w a1 zs c1) (hK : KI w g1 G zs.length o S W) (hO : Ord zs o) (hz : zs.length ≤ 17592186044416) (hol : o.length = zs.length)
    (hn : okT now = true) (hT : zs.all okT = true) (hr : okR (c, q) = true) (F : Nat) (hF : fut now zs o = F) :
    Calls Try.prog 20 #[.slice (some ⟨G, 0, none⟩) zs.length zs.length, .int .i64 now, .slice a1 zs.length c1, .slice (if zs.length = F then some ⟨g1, 0, none⟩ else some ⟨g1, F, none⟩) (zs.length - F) (zs.length - F), .agg #[.int .i64 c, .int .i64 q]] W fun e w' =>
      e = .returned (.tuple #[]) ∧ KI w g1 G zs.length o (S ++ rm (st now zs q) c (o.drop F) (-1)) w' ∧ W.grownBy w' (some G) := by
  have hlen : (o.drop F).length = zs.length - F := by simp [hol]
  have hperm : ∀ p ∈ o, p < zs.length := fun p hp => List.mem_range.1 (hO.perm.mem_iff.1 hp)
  simp only [okT, Bool.and_eq_true, decide_eq_true_eq] at hn
  simp only [okR, Bool.and_eq_true, decide_eq_true_eq] at hr
  have hA : RowI W a1 zs c1 := h1.below hK.1
  have hR : RowI W (if zs.length = F then some ⟨g1, 0, none⟩ else some ⟨g1, F, none⟩) (oz (o.drop F)) (zs.length - F) := by
    refine ⟨by rw [oz_len, hlen]; exact Nat.le_refl _, fun h0 => ?_⟩
    rw [oz_len, hlen] at h0
    refine ⟨g1, F, by rw [if_neg (by omega)], fun i hi => ?_⟩
    rw [oz_len, hlen] at hi
    rw [hK.place (F + i) (by omega), oz_tm _ i (by rw [hlen]; exact hi), List.getElem_drop]
  have hc := rule_any now a1 _ zs (o.drop F) c1 (zs.length - F) G G c q S W hA hR hK.2.1
    (fun h0 b off e => by
      obtain ⟨b', off', e', hc⟩ := h1.2 h0
      rw [e'] at e
      simp at e
      have := World.block_lt_of_cell? _ _ (hc 0 h0)
      simp at this
      have := hK.2.2.2.1
      have := hK.2.2.2.2
      omega)
    (fun h0 b off e => by
      rw [oz_len, hlen] at h0
      rw [if_neg (by omega)] at e
      simp at e
      have := hK.2.2.2.2
      omega)
    hz (by rw [hlen]; omega) (fun p hp => hperm p (List.mem_of_mem_drop hp)) hn
    (fun p hp => ⟨(okT_tm hT p (hperm p (List.mem_of_mem_drop hp))).1, by rw [← hF] at hp; exact fut_old hO p hp⟩) (by omega) (by omega)
  rw [hlen] at hc
  exact hc.mono fun e w' ⟨he, ho', hg⟩ => ⟨he, hK.rule ho' hg, hg⟩

set_option maxHeartbeats 600000 in
theorem keep_ok (now last : Int) (a1 a3 : Option Addr) (zs : List Int) (rs : List (Int × Int)) (c1 c3 : Nat) (w : World) (h1 : RowI w a1 zs c1) (h3 : RowR w a3 rs c3) (hz : zs.length ≤ 17592186044416) (hr : rs.length ≤ 17592186044416) (hl : last ≤ 9223372036854775807) (hok : okA now zs last rs = true) :
    Calls Try.prog 6 #[.int .i64 now, .slice a1 zs.length c1, .int .i64 last, .slice a3 rs.length c3] w fun e w' => ∃ g, e = .returned (.tuple #[.slice (some ⟨g, 0, none⟩) zs.length zs.length, .int .i64 0]) ∧ w'.ownsRow w.heap.size 4 1 (.slice (some ⟨g, 0, none⟩) zs.length zs.length) zs.length (kr now zs last rs) ∧ Below w.heap.size w w' := by
  obtain ⟨i0, hi, hz0, hz1, hz2⟩ := info_parts info4
  simp only [okA, Bool.and_eq_true, decide_eq_true_eq] at hok
  obtain ⟨⟨⟨x1, x2⟩, x3⟩, x4⟩ := hok
  rw [← bs_kr now zs last rs x3 x4]
  have hb0 : Below w.heap.size w (w.alloc (.cells #[.int .i64 now] 3)) := (Below.refl _ _).alloc (Nat.le_refl _) _
  have HT1 := tmay_any _ [now] 1 _ (row_one w now) (by simp)
  have HT2 := tmay_any a1 zs c1 _ (h1.below hb0) hz
  have HR3 := rmay_any a3 rs c3 _ (h3.below hb0) hr
  have hsz : (w.alloc (.cells #[.int .i64 now] 3)).heap.size = w.heap.size + 1 := by simp
  rw [show [now].all okT = true by simp [x1]] at HT1
  rw [x2] at HT2
  rw [x4, hsz] at HR3
  obtain ⟨o, ho⟩ : ∃ o, ordN zs = o := ⟨_, rfl⟩
  have hol : o.length = zs.length := by rw [← ho]; exact ordN_len zs
  have HOP : Hid (∀ p ∈ o, p < zs.length) := by rw [← ho]; exact ordN_lt zs
  have HORD : Hid (Ord zs o) := by rw [← ho]; exact ordN_ord zs
  have HNW : ∀ w, RowI w a1 zs c1 → _ := fun w hw => newest_any a1 zs c1 w hw hz
  rw [ho] at HNW ⊢
  have HNW' : Hid _ := HNW
  have HH1 : Hid (RowI w a1 zs c1) := h1
  have HH3 : Hid (RowR w a3 rs c3) := h3
  clear ho HNW h1 h3
  obtain ⟨L, hmin, hLn, hLt⟩ : ∃ L : Nat, min last (zs.length : Int) = (L : Int) ∧ L ≤ zs.length ∧ Hid (L = min last.toNat zs.length) := ⟨min last.toNat zs.length, by omega, by omega, rfl⟩
  go_enter Try.func6, Try.ntmps6
  go_wp2_with fail
  refine HT1.mono ?_
  rintro e w1 ⟨rfl, hw⟩
  rw [hw]
  clear hw
  go_wp2_with fail
  refine HT2.mono ?_
  rintro e w2 ⟨rfl, hw⟩
  rw [hw]
  clear hw
  go_wp2_with fail
  refine HR3.mono ?_
  rintro e w3 ⟨rfl, hb3⟩
  have hB3 : Below w.heap.size w w3 := hb0.trans (hb3.mono (by omega))
  clear HT1 HT2 HR3 hb0 hb3
  go_wp2_with fail
  refine (HNW'.out _ (HH1.out.below hB3)).mono ?_
  rintro e w4 ⟨g1, rfl, ho4, hb4⟩
  have hg1 := ho4.lt g1 rfl
  have hB4 : Below w.heap.size w w4 := hB3.trans (hb4.mono hB3.size)
  clear HNW' hb4
  go_wp2_with (at_make; refine wpList_make_full _ rfl _ _ 26 rfl w4.heap.size 4 i0 _ 1 Try.underlying26 hi hz0 hz1 _ _ _ _ zs.length rfl rfl rfl rfl (by rw [hz2]; omega) (by unfold maxLen; omega) (Nat.le_refl _) ?_; intro w5 ho5 hg5)
  rw [bs_nil] at ho5
  have HK0 : Hid (KI w g1 w4.heap.size zs.length o [] w5) := ⟨hB4.grown hg5 hB4.size (fun k e => by cases e), ho5, own_base (ho4.kept hg5 (Or.inr (by simp [Value.ownBlock]))) hB3.size, Nat.le_trans hB3.size hg1.1, hg1.2⟩
  obtain ⟨G, hG⟩ : ∃ G, w4.heap.size = G := ⟨_, rfl⟩
  rw [hG] at HK0 ⊢
  clear hG ho5 hg5 ho4 hg1 hB4 hmin
  go_loopw [49] (fun i wr => ∃ k : Nat, k ≤ L ∧ i = .int .i64 k ∧ Hid (KI w g1 G zs.length o (o.take k) wr)) (fun i _ => L - (intOf i).toNat)
  case atStart => exact ⟨0, Nat.zero_le _, rfl, HK0⟩
  case round =>
    obtain ⟨k, hk, rfl, HK⟩ := hrel
    clear HK0
    by_cases hlt : k < L
    · have hko : k < o.length := by omega
      have d1 := HK.out.place k hko
      have hpk := HOP.out _ (List.getElem_mem hko)
      have H2 : Hid (KI w g1 G zs.length o (o.take (k + 1)) (wr.setCell ⟨G, o[k], none⟩ (.bool true))) := by
        rw [← take_next o k hko]; exact HK.out.mark _
      obtain ⟨⟨u, d2⟩, d3⟩ := HK.out.seat o[k] hpk
      obtain ⟨p, hp⟩ : ∃ p, o[k] = p := ⟨_, rfl⟩
      rw [hp] at d1 d2 d3 hpk H2
      clear HK hp
      go_wp2
      go_roundw
      case rel => exact ⟨k + 1, by omega, by go_num, H2⟩
      case measure => simp [intOf]; omega
    · have hkL : k = L := by omega
      have HK1 : Hid (KI w g1 G zs.length o (o.take L) wr) := by rw [← hkL]; exact HK
      obtain ⟨F, hF⟩ : ∃ F, fut now zs o = F := ⟨_, rfl⟩
      have hFn : F ≤ zs.length := by rw [← hF, ← hol]; exact fut_le now zs o
      have HC := count_any now a1 (some ⟨g1, 0, none⟩) zs o c1 zs.length wr (HH1.out.below HK1.out.1) HK1.out.order hz (by omega) HOP.out
      rw [hF, hol] at HC
      have HF : Hid (fut now zs o = F) := hF
      clear hF hkL HK
      go_wp2_with (go_at_call 19; refine HC.mono ?_; rintro e w6 ⟨rfl, hw⟩; rw [hw]; clear hw)
      clear HC
      go_loopw [65] (fun i wr => ∃ k : Nat, k ≤ F ∧ i = .int .i64 k ∧ Hid (KI w g1 G zs.length o (o.take L ++ o.take k) wr)) (fun i _ => F - (intOf i).toNat)
      case atStart => exact ⟨0, Nat.zero_le _, rfl, by rw [List.take_zero, List.append_nil]; exact HK1⟩
      case round =>
        rename_i w6 _
        obtain ⟨k, hk, rfl, HK⟩ := hrel
        clear HK1
        by_cases hlt : k < F
        · have hko : k < o.length := by omega
          have d1 := HK.out.place k hko
          have hpk := HOP.out _ (List.getElem_mem hko)
          have H2 : Hid (KI w g1 G zs.length o (o.take L ++ o.take (k + 1)) (wr.setCell ⟨G, o[k], none⟩ (.bool true))) := by
            rw [← take_next o k hko, ← List.append_assoc]; exact HK.out.mark _
          obtain ⟨⟨u, d2⟩, d3⟩ := HK.out.seat o[k] hpk
          obtain ⟨p, hp⟩ : ∃ p, o[k] = p := ⟨_, rfl⟩
          rw [hp] at d1 d2 d3 hpk H2
          clear HK hp
          go_wp2
          go_roundw
          case rel => exact ⟨k + 1, by omega, by go_num, H2⟩
          case measure => simp [intOf]; omega
        · have hkF : k = F := by omega
          have HK2 : Hid (KI w g1 G zs.length o (o.take L ++ o.take F) wr) := by rw [← hkF]; exact HK
          clear hkF HK
          go_wp2
          go_loopw [75] (fun i wr => ∃ k : Nat, k ≤ rs.length ∧ i = .int .i64 k ∧ Hid (KI w g1 G zs.length o (o.take L ++ o.take F ++ (rs.take k).flatMap fun r => rm (st now zs r.2) r.1 (o.drop F) (-1)) wr)) (fun i _ => rs.length - (intOf i).toNat)
          case atStart => exact ⟨0, Nat.zero_le _, rfl, by rw [List.take_zero, List.flatMap_nil, List.append_nil]; exact HK2⟩
          case round =>
            obtain ⟨k, hk, rfl, HK⟩ := hrel
            clear HK2
            by_cases hlt : k < rs.length
            · obtain ⟨b3, off3, hb3, hc3⟩ := (HH3.out.below HK.out.1).2 (by omega)
              subst hb3
              obtain ⟨d1, d2⟩ := hc3 k hlt
              have l3 := HH3.out.1
              obtain ⟨x, hx⟩ : ∃ x, rs[k] = x := ⟨_, rfl⟩
              rw [hx] at d1 d2
              obtain ⟨c, q⟩ := x
              simp only at d1 d2
              have HX : Hid (rs[k] = (c, q)) := hx
              clear hc3 hx
              have hr' : okR (c, q) = true := by
                have : (c, q) ∈ rs := by rw [← HX.out]; exact List.getElem_mem hlt
                simp only [okRs, Bool.and_eq_true] at x4
                exact List.all_eq_true.1 x4.2 _ this
              have HRU : Hid (∀ W, KI w g1 G zs.length o (o.take L ++ o.take F ++ (rs.take k).flatMap fun r => rm (st now zs r.2) r.1 (o.drop F) (-1)) W → Calls Try.prog 20 #[.slice (some ⟨G, 0, none⟩) zs.length zs.length, .int .i64 now, .slice a1 zs.length c1, .slice (if zs.length = F then some ⟨g1, 0, none⟩ else some ⟨g1, F, none⟩) (zs.length - F) (zs.length - F), .agg #[.int .i64 c, .int .i64 q]] W fun e w' =>
                  e = .returned (.tuple #[]) ∧ KI w g1 G zs.length o (o.take L ++ o.take F ++ (rs.take (k + 1)).flatMap fun r => rm (st now zs r.2) r.1 (o.drop F) (-1)) w' ∧ W.grownBy w' (some G)) := fun W hW => by
                have := hW.ruled (c := c) (q := q) (now := now) HH1.out HORD.out hz hol x1 x2 hr' F HF.out
                rw [List.take_succ_eq_append_getElem hlt, List.flatMap_append, HX.out]
                simpa using this
              have hGl : G < wr.heap.size := (HK.out.2.1.lt G rfl).2
              clear HX hr'
              by_cases hFe : zs.length = F
              · rw [if_pos hFe] at HRU
                subst hFe
                simp only [Nat.sub_self] at HRU
                go_wp2
                go_region_held3 (fun w' => w'.cell? ⟨wr.heap.size, 0, none⟩ = some (.int .i64 c) ∧ w'.cell? ⟨wr.heap.size, 1, none⟩ = some (.int .i64 q)) (go_keep)
                  (first | (go_at_call 20; refine (HRU.out _ ((HK.out.alloc _).drewN 1)).mono ?_; rintro e w7 ⟨rfl, hk7, hg7⟩; have z0 : w7.cell? ⟨wr.heap.size, 0, none⟩ = some (.int .i64 c) := hg7.cell (by simp) (by simp; omega); have z1 : w7.cell? ⟨wr.heap.size, 1, none⟩ = some (.int .i64 q) := hg7.cell (by simp) (by simp; omega); have HK7 : Hid _ := hk7; clear hk7 hg7))
                go_wp2
                go_roundw
                case rel => exact ⟨k + 1, by omega, by go_num, HK7⟩
                case measure => simp [intOf]; omega
              · rw [if_neg hFe] at HRU
                go_wp2
                go_region_held3 (fun w' => w'.cell? ⟨wr.heap.size, 0, none⟩ = some (.int .i64 c) ∧ w'.cell? ⟨wr.heap.size, 1, none⟩ = some (.int .i64 q)) (go_keep)
                  (first | (go_at_call 20; refine (HRU.out _ ((HK.out.alloc _).drewN 1)).mono ?_; rintro e w7 ⟨rfl, hk7, hg7⟩; have z0 : w7.cell? ⟨wr.heap.size, 0, none⟩ = some (.int .i64 c) := hg7.cell (by simp) (by simp; omega); have z1 : w7.cell? ⟨wr.heap.size, 1, none⟩ = some (.int .i64 q) := hg7.cell (by simp) (by simp; omega); have HK7 : Hid _ := hk7; clear hk7 hg7))
                go_wp2
                go_roundw
                case rel => exact ⟨k + 1, by omega, by go_num, HK7⟩
                case measure => simp [intOf]; omega
            · have hkr : k = rs.length := by omega
              have HE : Hid (∃ g, Ending.returned (.tuple #[.slice (some ⟨G, 0, none⟩) zs.length zs.length, .int .i64 0]) = .returned (.tuple #[.slice (some ⟨g, 0, none⟩) zs.length zs.length, .int .i64 0]) ∧ wr.ownsRow w.heap.size 4 1 (.slice (some ⟨g, 0, none⟩) zs.length zs.length) zs.length (bs zs.length (prS now zs last.toNat rs o)) ∧ Below w.heap.size w wr) := by
                refine ⟨G, rfl, ?_, HK.out.1⟩
                have h := HK.out.2.1
                rw [hkr, List.take_length, ← HF.out, (take_fut now zs o).1, (take_fut now zs o).2, take_last o L last.toNat (by rw [hol]; exact hLt.out)] at h
                exact own_base h (by have := HK.out.2.2.2.1; have := HK.out.2.2.2.2; omega)
              clear HK hkr
              go_wp2
              go_ret2
              exact HE.out
end Go.Proofs.Ytikbfhhkkplpbaa
