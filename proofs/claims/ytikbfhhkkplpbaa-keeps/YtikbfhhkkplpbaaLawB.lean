/-
  The walk of tether/tetherlaw.Keeps (3).
-/
import Derived.Test.YtikbfhhkkplpbaaLaw
namespace Go.Proofs.Ytikbfhhkkplpbaa
open Go.RowKit Pl

theorem info25 : (Try.prog.info? 25).map (fun i => (i.zero, i.size, i.bytes)) = some (some (.agg #[.int .i64 0, .int .i64 0]), 2, 16) := by kernel_rfl
theorem size3 : (Try.prog.info? 3).map (·.size) = some 1 := by kernel_rfl
theorem size25 : (Try.prog.info? 25).map (·.size) = some 2 := by kernel_rfl

theorem made25 (n : Nat) : (madeCells (Value.agg #[.int .i64 0, .int .i64 0]).cells (n * 2)).toList = List.replicate (n * 2) (.int .i64 0) := by
  apply List.ext_getElem
  · simp [madeCells]
  · intro i h1 h2
    have : i % 2 = 0 ∨ i % 2 = 1 := Nat.mod_two_eq_zero_or_one i
    rcases this with h | h <;> simp [madeCells, Value.cells, h]

/-- The copy's cells with the two marks laid behind. -/
theorem gl_made (zs : List Int) : ((zc zs ++ (ini (zs.length + 2) 0).drop (zc zs).length).set zs.length (.int .i64 77)).set (zs.length + 1) (.int .i64 77) = gl zs := by
  have e : (ini (zs.length + 2) 0).drop (zc zs).length = [.int .i64 0, .int .i64 0] := by
    have e0 : ini (zs.length + 2) 0 = List.replicate (zs.length + 2) (.int .i64 0) := by
      apply List.ext_getElem
      · simp [ini]
      · intro i h1 h2; simp [ini]
    rw [e0, zc_len, List.drop_replicate, show zs.length + 2 - zs.length = 2 by omega]; rfl
  rw [e, List.set_append_right _ _ (by rw [zc_len]; exact Nat.le_refl _), zc_len, Nat.sub_self, List.set_append_right _ _ (by rw [zc_len]; omega), zc_len, show zs.length + 1 - zs.length = 1 by omega]
  rfl
theorem ll_made (rs : List (Int × Int)) : ((rcl rs ++ (List.replicate ((rs.length + 2) * 2) (Value.int .i64 0)).drop (rcl rs).length).set (rs.length * 2) (.int .i64 77)).set ((rs.length + 1) * 2) (.int .i64 77) = ll rs := by
  have e : (List.replicate ((rs.length + 2) * 2) (Value.int .i64 0)).drop (rcl rs).length = [.int .i64 0, .int .i64 0, .int .i64 0, .int .i64 0] := by
    rw [rcl_len, List.drop_replicate, show (rs.length + 2) * 2 - rs.length * 2 = 4 by omega]; rfl
  rw [e, List.set_append_right _ _ (by rw [rcl_len]; exact Nat.le_refl _), rcl_len, Nat.sub_self, List.set_append_right _ _ (by rw [rcl_len]; omega), rcl_len, show (rs.length + 1) * 2 - rs.length * 2 = 2 by omega]
  rfl

theorem giv1 {w w1 w2 : World} {zs : List Int} (hown2 : w2.ownsRow w.heap.size 3 1 (.slice (some ⟨w.heap.size, 0, none⟩) (zs.length + 2) (zs.length + 2)) (zs.length + 2) (zc zs ++ (ini (zs.length + 2) 0).drop (zc zs).length)) (hg : w1.grownBy w2 (some w.heap.size)) (hb1 : Below w.heap.size w w1) :
    ∃ u1 u2, w2.cell? ⟨w.heap.size, zs.length, none⟩ = some u1 ∧ w2.cell? ⟨w.heap.size, zs.length + 1, none⟩ = some u2 ∧ w2.frozen? ⟨w.heap.size, zs.length, none⟩ = false ∧ w2.frozen? ⟨w.heap.size, zs.length + 1, none⟩ = false ∧
      Hid (((w2.setCell ⟨w.heap.size, zs.length, none⟩ (.int .i64 77)).setCell ⟨w.heap.size, zs.length + 1, none⟩ (.int .i64 77)).ownsRow w.heap.size 3 1 (.slice (some ⟨w.heap.size, 0, none⟩) (zs.length + 2) (zs.length + 2)) (zs.length + 2) (gl zs)) ∧
      Hid (Below w.heap.size w ((w2.setCell ⟨w.heap.size, zs.length, none⟩ (.int .i64 77)).setCell ⟨w.heap.size, zs.length + 1, none⟩ (.int .i64 77))) ∧ w.heap.size < w2.heap.size := by
  have hb2 : Below w.heap.size w w2 := hb1.grown hg hb1.size (fun k e => by cases e; exact Nat.le_refl _)
  have hlen2 : (zc zs ++ (ini (zs.length + 2) 0).drop (zc zs).length).length = zs.length + 2 := by have := hown2.1; omega
  obtain ⟨u1, d1⟩ : ∃ u, w2.cell? ⟨w.heap.size, zs.length, none⟩ = some u := by rw [hown2.cellAt zs.length (by omega)]; exact ⟨_, List.getElem?_eq_getElem (by omega)⟩
  obtain ⟨u2, d2⟩ : ∃ u, w2.cell? ⟨w.heap.size, zs.length + 1, none⟩ = some u := by rw [hown2.cellAt (zs.length + 1) (by omega)]; exact ⟨_, List.getElem?_eq_getElem (by omega)⟩
  have s2 := ((hown2.stored zs.length (.int .i64 77)).1.stored (zs.length + 1) (.int .i64 77)).1
  rw [gl_made] at s2
  exact ⟨u1, u2, d1, d2, hown2.frozenAt _, hown2.frozenAt _, s2, (hb2.setCell (by exact Nat.le_refl _) _).setCell (by exact Nat.le_refl _) _, (hown2.lt _ rfl).2⟩

theorem giv2 {w wa w3 : World} {v : Value} {n : Nat} {xs : List Value} (h : wa.ownsRow w.heap.size 3 1 v n xs) (hb : Below w.heap.size w wa) (hg : wa.grownBy w3 none) : Hid (w3.ownsRow w.heap.size 3 1 v n xs) ∧ Hid (Below w.heap.size w w3) :=
  ⟨h.kept hg (by cases hv : v.ownBlock <;> simp), hb.grown hg hb.size (fun k e => by cases e)⟩

theorem giv3 {w w3 w4 : World} {G : Nat} {zs : List Int} {rs : List (Int × Int)} (hown4 : w4.ownsRow w.heap.size 25 2 (.slice (some ⟨G, 0, none⟩) (rs.length + 2) (rs.length + 2)) (rs.length + 2) (rcl rs ++ (List.replicate ((rs.length + 2) * 2) (Value.int .i64 0)).drop (rcl rs).length)) (hg : w3.grownBy w4 (some G))
    (h3 : w3.ownsRow w.heap.size 3 1 (.slice (some ⟨w.heap.size, 0, none⟩) (zs.length + 2) (zs.length + 2)) (zs.length + 2) (gl zs)) (hb3 : Below w.heap.size w w3) (hG : w.heap.size < G) :
    ∃ u3 u4, w4.cell? ⟨G, rs.length * 2, none⟩ = some u3 ∧ w4.cell? ⟨G, (rs.length + 1) * 2, none⟩ = some u4 ∧ w4.frozen? ⟨G, rs.length * 2, none⟩ = false ∧ w4.frozen? ⟨G, (rs.length + 1) * 2, none⟩ = false ∧
      Hid (Giv w w.heap.size G zs rs ((w4.setCell ⟨G, rs.length * 2, none⟩ (.int .i64 77)).setCell ⟨G, (rs.length + 1) * 2, none⟩ (.int .i64 77))) := by
  have hb4 : Below w.heap.size w w4 := hb3.grown hg hb3.size (fun k e => by cases e; omega)
  have hlen : (rcl rs ++ (List.replicate ((rs.length + 2) * 2) (Value.int .i64 0)).drop (rcl rs).length).length = (rs.length + 2) * 2 := hown4.1
  obtain ⟨u3, d3⟩ : ∃ u, w4.cell? ⟨G, rs.length * 2, none⟩ = some u := by rw [hown4.cellAt (rs.length * 2) (by omega)]; exact ⟨_, List.getElem?_eq_getElem (by omega)⟩
  obtain ⟨u4, d4⟩ : ∃ u, w4.cell? ⟨G, (rs.length + 1) * 2, none⟩ = some u := by rw [hown4.cellAt ((rs.length + 1) * 2) (by omega)]; exact ⟨_, List.getElem?_eq_getElem (by omega)⟩
  have s4 := ((hown4.stored (rs.length * 2) (.int .i64 77)).1.stored ((rs.length + 1) * 2) (.int .i64 77)).1
  rw [ll_made] at s4
  have k4 := h3.kept hg (Or.inr (by simp [Value.ownBlock]; omega))
  refine ⟨u3, u4, d3, d4, hown4.frozenAt _, hown4.frozenAt _, (hb4.setCell (by show w.heap.size ≤ G; omega) _).setCell (by show w.heap.size ≤ G; omega) _, ?_, s4⟩
  exact ownsRow_setCell_other (ownsRow_setCell_other k4 (by simp [Value.ownBlock]; omega) _) (by simp [Value.ownBlock]; omega) _

theorem tl_get (bl : List Bool) (j k : Nat) (h : k < bl.length) : (tl bl j)[k]? = some (.bool (!bl[k])) := by
  simp only [tl, bc, List.getElem?_map]
  rw [List.getElem?_append_left (by simpa using h)]
  simp [h]
theorem tl_true (bl : List Bool) (q : Nat) (h : q < 3) : (tl bl 3)[bl.length + q]? = some (.bool true) := by
  simp only [tl, bc, List.getElem?_map]
  rw [List.getElem?_append_right (by simp), List.length_map, Nat.add_sub_cancel_left]
  rcases (show q = 0 ∨ q = 1 ∨ q = 2 by omega) with rfl | rfl | rfl <;> rfl
theorem gl_get (zs : List Int) : (gl zs)[zs.length]? = some (.int .i64 77) ∧ (gl zs)[zs.length + 1]? = some (.int .i64 77) := by
  unfold gl
  rw [List.getElem?_append_right (by rw [zc_len]; exact Nat.le_refl _), List.getElem?_append_right (by rw [zc_len]; omega), zc_len, Nat.sub_self, show zs.length + 1 - zs.length = 1 by omega]
  exact ⟨rfl, rfl⟩
theorem ll_get (rs : List (Int × Int)) : (ll rs)[rs.length * 2]? = some (.int .i64 77) ∧ (ll rs)[(rs.length + 1) * 2]? = some (.int .i64 77) := by
  unfold ll
  rw [List.getElem?_append_right (by rw [rcl_len]; exact Nat.le_refl _), List.getElem?_append_right (by rw [rcl_len]; omega), rcl_len, Nat.sub_self, show (rs.length + 1) * 2 - rs.length * 2 = 2 by omega]
  exact ⟨rfl, rfl⟩

set_option maxRecDepth 100000 in
set_option maxHeartbeats 4000000 in
theorem keeps_any (now last : Int) (a1 a3 : Option Addr) (zs : List Int) (rs : List (Int × Int)) (c1 c3 : Nat) (w : World) (h1 : RowI w a1 zs c1) (h3 : RowR w a3 rs c3) (hz : zs.length ≤ 17592186043904) (hr : rs.length ≤ 8796093021952) (hl : last ≤ 9223372036854775807)
    (hn1 : a1 = none → zs.length = 0 ∧ c1 = 0) (hn3 : a3 = none → rs.length = 0 ∧ c3 = 0) :
    Calls Try.prog 3 #[.int .i64 now, .slice a1 zs.length c1, .int .i64 last, .slice a3 rs.length c3] w fun e w' => e = .returned (.bool true) ∧ Below w.heap.size w w' := by
  obtain ⟨i3, hi3, hz30, hz31, hz32⟩ := info_parts info3
  obtain ⟨i25, hi25, hz250, hz251, hz252⟩ := info_parts info25
  have H1 : Hid (RowI w a1 zs c1) := h1
  have H3 : Hid (RowR w a3 rs c3) := h3
  have N1 : Hid (a1 = none → zs.length = 0 ∧ c1 = 0) := hn1
  have N3 : Hid (a3 = none → rs.length = 0 ∧ c3 = 0) := hn3
  obtain ⟨bl, hbl⟩ : ∃ bl, ansB now zs last rs = bl := ⟨_, rfl⟩
  obtain ⟨er, her⟩ : ∃ er, ansE now zs last rs = er := ⟨_, rfl⟩
  have hbln : bl.length ≤ zs.length := by rw [← hbl]; exact ansB_len now zs last rs
  have HREF : Hid (∀ W, RowI W a1 zs c1 → RowR W a3 rs c3 → Calls Try.prog 5 #[.int .i64 now, .slice a1 zs.length c1, .int .i64 last, .slice a3 rs.length c3] W fun e w' => ∃ v, e = .returned (.tuple #[v, .int .i64 er]) ∧ w'.ownsRow W.heap.size 4 1 v bl.length (bc bl) ∧ Below W.heap.size W w') := fun W k1 k3 => by
    rw [← hbl, ← her]; exact refK now last a1 a3 zs rs c1 c3 W k1 k3 (by omega) (by omega)
  have HKEEP : Hid (∀ W ta tc ra rc, RowI W ta zs tc → RowR W ra rs rc → Calls Try.prog 6 #[.int .i64 now, .slice ta zs.length tc, .int .i64 last, .slice ra rs.length rc] W fun e w' => ∃ v, e = .returned (.tuple #[v, .int .i64 er]) ∧ w'.ownsRow W.heap.size 4 1 v bl.length (bc bl) ∧ Below W.heap.size W w') := fun W ta tc ra rc k1 k3 => by
    rw [← hbl, ← her]; exact keepK now last ta ra zs rs tc rc W k1 k3 (by omega) (by omega) hl
  clear h1 h3 hn1 hn3 hbl her
  go_enter Try.func3, Try.ntmps3
  go_wp2_with (at_make; refine wpList_make_full _ rfl _ _ 22 rfl w.heap.size 3 i3 _ 1 Try.underlying22 hi3 hz30 hz31 _ _ _ _ (zs.length + 2) rfl rfl (by omega) (by omega) (by rw [hz32]; omega) (by unfold maxLen; omega) (Nat.le_refl _) ?_; intro w1 hown1 hgrow1; rw [ini_zero] at hown1)
  have hb1 : Below w.heap.size w w1 := (Below.refl _ _).grown hgrow1 (Nat.le_refl _) (fun k e => by cases e)
  obtain ⟨w2, hrun2, hown2, hgrow2⟩ := run_copy_first (P := Try.prog) w1 22 3 w.heap.size 3 1 Try.underlying22 size3 w.heap.size (zs.length + 2) (zs.length + 2) a1 zs.length c1 _ hown1 (by omega) (zc zs) (by rw [zc_len]; omega) (zc_src (H1.out.below hb1)) (zc_one zs)
  rw [hrun2]
  simp only [Result.andThen]
  rw [Oper.upon_value]
  obtain ⟨u1, u2, d1, d2, f1, f2, S2, HB3, hsz2⟩ := giv1 hown2 hgrow2 hb1
  clear hown1 hb1 hown2 hgrow2 hgrow1 hrun2
  go_wp2_with (at_make; refine wpList_make_full _ rfl _ _ 23 rfl w.heap.size 25 i25 _ 2 Try.underlying23 hi25 hz250 hz251 _ _ _ _ (rs.length + 2) rfl rfl (by omega) (by omega) (by rw [hz252]; omega) (by unfold maxLen; omega) (by simp; omega) ?_; intro w3 hown3 hgrow3; rw [made25] at hown3)
  obtain ⟨S3, hb3⟩ := giv2 S2.out HB3.out hgrow3
  have hown3' : w3.ownsRow w.heap.size 25 2 (.slice (some ⟨w2.heap.size, 0, none⟩) (rs.length + 2) (rs.length + 2)) (rs.length + 2) (List.replicate ((rs.length + 2) * 2) (.int .i64 0)) := by simpa using hown3
  obtain ⟨w4, hrun4, hown4, hgrow4⟩ := run_copy_first (P := Try.prog) w3 23 3 w.heap.size 25 2 Try.underlying23 size25 w2.heap.size (rs.length + 2) (rs.length + 2) a3 rs.length c3 _ hown3' (by omega) (rcl rs) (by rw [rcl_len]) (rcl_src (H3.out.below hb3.out)) (rcl_one rs)
  rw [hrun4]
  simp only [Result.andThen]
  rw [Oper.upon_value]
  obtain ⟨u3, u4, d3, d4, f3, f4, HG⟩ := giv3 hown4 hgrow4 S3.out hb3.out hsz2
  clear hown3 hown3' hown4 hgrow4 hgrow3 hrun4 S3 hb3 S2 HB3 d1 d2 f1 f2
  have hq1 : ∀ W, (binOp .eql 22 (.slice a1 zs.length c1) (.slice none 0 0)).run Try.prog W = .ok (.bool a1.isNone) W := fun W => Lib.run_eql_slice_nil W 22 3 a1 zs.length c1 0 0 Try.underlying22
  go_upto_if 66 with fail
  clear hq1
  go_cut [13] (fun s13 wx => Hid (Giv w w.heap.size w2.heap.size zs rs wx) ∧ ∃ ta tc, s13 = .slice ta zs.length tc ∧ Hid (RowI wx ta zs tc))
  case first =>
    clear d3 d4 f3 f4
    cases hA : a1 with
    | none =>
      subst hA
      have hz0 := (N1.out rfl).1
      have HR : Hid (RowI ((w4.setCell ⟨w2.heap.size, rs.length * 2, none⟩ (.int .i64 77)).setCell ⟨w2.heap.size, (rs.length + 1) * 2, none⟩ (.int .i64 77)) none zs 0) := ⟨by omega, fun h => by omega⟩
      have hz0' : Hid (zs.length = 0) := hz0
      clear hz0
      go_wp2
      go_meet
      case rel => exact ⟨HG, none, 0, by rw [hz0'.out], HR⟩
    | some ad =>
      subst hA
      go_wp2
      go_meet
      case rel => exact ⟨HG, some ⟨w.heap.size, 0, none⟩, zs.length + 2, rfl, HG.out.rowI⟩
  case rest =>
  obtain ⟨HG5, ta, tc, rfl, HT5⟩ := hcut
  clear HG d3 d4 f3 f4
  obtain ⟨G2, hG2⟩ : ∃ G2, G2 = w2.heap.size := ⟨_, rfl⟩
  rw [← hG2] at HG5 ⊢
  clear hG2 hsz2
  have hq3 : ∀ W, (binOp .eql 23 (.slice a3 rs.length c3) (.slice none 0 0)).run Try.prog W = .ok (.bool a3.isNone) W := fun W => Lib.run_eql_slice_nil W 23 25 a3 rs.length c3 0 0 Try.underlying23
  go_upto_if 71 with fail
  clear hq3
  go_cut [14] (fun s14 wx => Hid (Giv w w.heap.size G2 zs rs wx) ∧ Hid (RowI wx ta zs tc) ∧ ∃ ra rc, s14 = .slice ra rs.length rc ∧ Hid (RowR wx ra rs rc))
  case first =>
    cases hA : a3 with
    | none =>
      subst hA
      have HZ : Hid (rs.length = 0) := (N3.out rfl).1
      have HR : Hid (RowR wc none rs 0) := ⟨by have := HZ.out; omega, fun h => by have := HZ.out; omega⟩
      go_wp2
      go_meet
      case rel => exact ⟨HG5, HT5, none, 0, by rw [HZ.out], HR⟩
    | some ad =>
      subst hA
      go_wp2
      go_meet
      case rel => exact ⟨HG5, HT5, some ⟨G2, 0, none⟩, rs.length + 2, rfl, HG5.out.rowR⟩
  case rest =>
  obtain ⟨HG6, HT6, ra, rc, rfl, HR6⟩ := hcut
  obtain ⟨W5, hW5⟩ : ∃ W5, W5 = wc := ⟨_, rfl⟩
  subst hW5
  clear HG5 HT5
  go_wp2_with fail
  refine (HREF.out _ (H1.out.below HG6.out.1) (H3.out.below HG6.out.1)).mono ?_
  rintro e w6 ⟨v0, rfl, hv0, hb6⟩
  go_wp2_with fail
  refine (HKEEP.out _ _ _ _ _ (HT6.out.below hb6) (HR6.out.below hb6)).mono ?_
  rintro e w7 ⟨x, rfl, hx, hb7⟩
  have hv07 := own_below hv0 hb7
  go_wp2_with fail
  refine (sameb_any x v0 bl _ _ _ hx hv07 (by omega)).mono ?_
  rintro e w7' ⟨rfl, n1, rfl⟩
  go_wp2_with fail
  have hxo : (w7.drewN n1).ownsRow w6.heap.size 4 1 x bl.length (bc bl) := hx
  refine (turns_any x bl w6.heap.size _ hxo hb7.size (by omega)).mono ?_
  rintro e w8 ⟨one_, rfl, ho8, hx8, hg8⟩
  have hxr : ∀ b, x.ownBlock = some b → w6.heap.size ≤ b := fun b hb => (hx.lt b hb).1
  have hv0r : ∀ b, v0.ownBlock = some b → b < w6.heap.size := fun b hb => (hv0.lt b hb).2
  have hv08 : w8.ownsRow W5.heap.size 4 1 v0 bl.length (bc bl) := own_other (show (w7.drewN n1).ownsRow W5.heap.size 4 1 v0 bl.length (bc bl) from hv07) hg8 hxr hv0r
  have hb68 : Below w6.heap.size w6 w8 := (bdn hb7 n1).grown hg8 hb7.size hxr
  have K1 : Hid ((w8.ownsRow W5.heap.size 4 1 v0 bl.length (bc bl) ∧ w8.ownsRow w6.heap.size 4 1 one_ (bl.length + 3) (tl bl 3) ∧ w8.ownsRow w6.heap.size 4 1 x bl.length (tl bl 0)) ∧ Giv w w.heap.size G2 zs rs w8 ∧ RowI w8 ta zs tc ∧ RowR w8 ra rs rc) :=
    ⟨⟨hv08, ho8, hx8⟩, (HG6.out.below hb6).below hb68, (HT6.out.below hb6).below hb68, (HR6.out.below hb6).below hb68⟩
  clear hv0 hb6 hx hb7 hv07 hxo ho8 hx8 hg8 hxr hv0r hv08 hb68 HG6 HT6 HR6
  go_wp2_with fail
  refine (HKEEP.out _ _ _ _ _ K1.out.2.2.1 K1.out.2.2.2).mono ?_
  rintro e w9 ⟨y, rfl, hy, hb9⟩
  go_wp2_with fail
  refine (sameb_any y v0 bl _ _ _ hy (own_below K1.out.1.1 hb9) (by omega)).mono ?_
  rintro e w9' ⟨rfl, n2, rfl⟩
  go_wp2_with fail
  have hyo : (w9.drewN n2).ownsRow w8.heap.size 4 1 y bl.length (bc bl) := hy
  refine (turns_any y bl w8.heap.size _ hyo hb9.size (by omega)).mono ?_
  rintro e w10 ⟨two_, rfl, ho10, hy10, hg10⟩
  have hyr : ∀ b, y.ownBlock = some b → w8.heap.size ≤ b := fun b hb => (hy.lt b hb).1
  have hb810 : Below w8.heap.size w8 w10 := (bdn hb9 n2).grown hg10 hb9.size hyr
  obtain ⟨s0, p0, e0⟩ := own_shape K1.out.1.1
  obtain ⟨sx, px, ex⟩ := own_shape K1.out.1.2.2
  obtain ⟨so, po, eo⟩ := own_shape K1.out.1.2.1
  obtain ⟨sy, py, ey⟩ := own_shape hy10
  obtain ⟨st2, pt, et⟩ := own_shape ho10
  have GIV := K1.out.2.1.below hb810
  have V0 := own_below K1.out.1.1 hb810
  have VX := own_below K1.out.1.2.2 hb810
  have VO := own_below K1.out.1.2.1 hb810
  subst e0 ex eo ey et
  have K2 : Hid ((w10.ownsRow W5.heap.size 4 1 (.slice s0 bl.length p0) bl.length (bc bl) ∧ w10.ownsRow w6.heap.size 4 1 (.slice sx bl.length px) bl.length (tl bl 0) ∧ w10.ownsRow w6.heap.size 4 1 (.slice so (bl.length + 3) po) (bl.length + 3) (tl bl 3) ∧ w10.ownsRow w8.heap.size 4 1 (.slice sy bl.length py) bl.length (tl bl 0) ∧ w10.ownsRow w8.heap.size 4 1 (.slice st2 (bl.length + 3) pt) (bl.length + 3) (tl bl 3)) ∧ Giv w w.heap.size G2 zs rs w10) := ⟨⟨V0, VX, VO, hy10, ho10⟩, GIV⟩
  clear K1 hy hb9 hyo ho10 hy10 hg10 hyr hb810 GIV V0 VX VO
  go_wp2
  go_loopw [25] (fun i wr => ∃ k m : Nat, k ≤ bl.length ∧ i = .int .i64 k ∧ wr = w10.drewN m) (fun i _ => bl.length - (intOf i).toNat)
  case atStart => exact ⟨0, 0, Nat.zero_le _, rfl, rfl⟩
  case round =>
    obtain ⟨k, m, hk, rfl, rfl⟩ := hrel
    by_cases hlt : k < bl.length
    · obtain ⟨⟨V0, VX, VO, VY, VT⟩, _⟩ := K2.out
      obtain ⟨g0, q0, e0, l0, hc0⟩ := own_at V0 (by omega)
      obtain ⟨gx, qx, ex, lx, hcx⟩ := own_at VX (by omega)
      obtain ⟨go_, qo, eo, lo, hco⟩ := own_at VO (by omega)
      obtain ⟨gy, qy, ey, ly, hcy⟩ := own_at VY (by omega)
      obtain ⟨gt, qt, et, lt, hct⟩ := own_at VT (by omega)
      simp only [Value.slice.injEq, true_and] at e0 ex eo ey et
      obtain ⟨rfl, rfl⟩ := e0
      obtain ⟨rfl, rfl⟩ := ex
      obtain ⟨rfl, rfl⟩ := eo
      obtain ⟨rfl, rfl⟩ := ey
      obtain ⟨rfl, rfl⟩ := et
      have d0 : ∀ m, (w10.drewN m).cell? ⟨g0, k, none⟩ = some (.bool bl[k]) := fun m => hc0 _ _ (bc_get bl k hlt)
      have dx : ∀ m, (w10.drewN m).cell? ⟨gx, k, none⟩ = some (.bool (!bl[k])) := fun m => hcx _ _ (tl_get bl 0 k hlt)
      have dO : ∀ m, (w10.drewN m).cell? ⟨go_, k, none⟩ = some (.bool (!bl[k])) := fun m => hco _ _ (tl_get bl 3 k hlt)
      have dy : ∀ m, (w10.drewN m).cell? ⟨gy, k, none⟩ = some (.bool (!bl[k])) := fun m => hcy _ _ (tl_get bl 0 k hlt)
      have dt : ∀ m, (w10.drewN m).cell? ⟨gt, k, none⟩ = some (.bool (!bl[k])) := fun m => hct _ _ (tl_get bl 3 k hlt)
      clear hc0 hcx hco hcy hct V0 VX VO VY VT
      cases hbk : bl[k]
      all_goals
        rw [hbk] at d0 dx dO dy dt
        simp only [Bool.not_true, Bool.not_false] at dx dO dy dt
        clear hbk
        go_wp2
        go_quiet (fail)
        go_wp2
        go_roundw
        case rel => exact ⟨k + 1, _, by omega, by go_num, rfl⟩
        case measure => simp [intOf]; omega
    · go_wp2
      go_loopw [26] (fun i wr => ∃ q m : Nat, q ≤ 3 ∧ i = .int .i64 ((bl.length : Int) + q) ∧ wr = w10.drewN m) (fun i _ => bl.length + 3 - (intOf i).toNat)
      case atStart => exact ⟨0, m, by omega, by simp, rfl⟩
      case round =>
        obtain ⟨q, m2, hq, rfl, rfl⟩ := hrel
        by_cases hlt3 : q < 3
        · obtain ⟨⟨_, _, VO, _, VT⟩, _⟩ := K2.out
          obtain ⟨go_, qo, eo, lo, hco⟩ := own_at VO (by omega)
          obtain ⟨gt, qt, et, lt, hct⟩ := own_at VT (by omega)
          simp only [Value.slice.injEq, true_and] at eo et
          obtain ⟨rfl, rfl⟩ := eo
          obtain ⟨rfl, rfl⟩ := et
          have dO : (w10.drewN m2).cell? ⟨go_, bl.length + q, none⟩ = some (.bool true) := hco _ _ (tl_true bl q hlt3)
          have dt : (w10.drewN m2).cell? ⟨gt, bl.length + q, none⟩ = some (.bool true) := hct _ _ (tl_true bl q hlt3)
          have i0 : (0 : Int) ≤ (bl.length : Int) + (q : Int) := by omega
          have i1 : (bl.length : Int) + (q : Int) < (bl.length : Int) + 3 := by omega
          clear hco hct VO VT
          go_wp2
          go_roundw
          case rel => exact ⟨q + 1, _, by omega, by go_num, rfl⟩
          case measure => simp [intOf]; omega
        · have i1 : ¬ (bl.length : Int) + (q : Int) < (bl.length : Int) + 3 := by omega
          go_wp2
          go_loopw [27] (fun i wr => ∃ k m : Nat, k ≤ zs.length ∧ i = .int .i64 k ∧ wr = w10.drewN m) (fun i _ => zs.length - (intOf i).toNat)
          case atStart => exact ⟨0, m2, Nat.zero_le _, rfl, rfl⟩
          case round =>
            obtain ⟨k3, m3, hk3, rfl, rfl⟩ := hrel
            by_cases hlt4 : k3 < zs.length
            · obtain ⟨b1, o1, e1, hc1⟩ := (H1.out.below K2.out.2.1).2 (by omega)
              subst e1
              have l1 := H1.out.1
              have d1 : ∀ m, (w10.drewN m).cell? ⟨b1, o1 + k3, none⟩ = some (.int .i64 (tm zs k3)) := fun m => hc1 k3 hlt4
              obtain ⟨b2, o2, e2, hc2⟩ := K2.out.2.rowI.2 (by omega)
              have d2 : ∀ m, (w10.drewN m).cell? ⟨w.heap.size, k3, none⟩ = some (.int .i64 (tm zs k3)) := fun m => by
                simp only [Option.some.injEq, Addr.mk.injEq, and_true] at e2
                have := hc2 k3 hlt4
                rw [← e2.1, ← e2.2, Nat.zero_add] at this
                exact this
              obtain ⟨xv, hxv⟩ : ∃ xv, tm zs k3 = xv := ⟨_, rfl⟩
              rw [hxv] at d1 d2
              clear hc1 hc2 e2 hxv
              go_wp2
              go_quiet (fail)
              go_wp2
              go_roundw
              case rel => exact ⟨k3 + 1, _, by omega, by go_num, rfl⟩
              case measure => simp [intOf]; omega
            · have HSR := samer_any (some ⟨G2, 0, none⟩) a3 (rs.length + 2) c3 rs (w10.drewN m3) K2.out.2.rowR (H3.out.below (bdn K2.out.2.1 m3)) (by omega)
              have gv := K2.out.2.2.1
              have lv := K2.out.2.2.2
              have e1 : ∀ m, (w10.drewN m).cell? ⟨w.heap.size, zs.length, none⟩ = some (.int .i64 77) := fun m => (gv.cellAt zs.length (by omega)).trans (gl_get zs).1
              have e2 : ∀ m, (w10.drewN m).cell? ⟨w.heap.size, zs.length + 1, none⟩ = some (.int .i64 77) := fun m => (gv.cellAt (zs.length + 1) (by omega)).trans (gl_get zs).2
              have e3 : ∀ m, (w10.drewN m).cell? ⟨G2, rs.length * 2, none⟩ = some (.int .i64 77) := fun m => (lv.cellAt (rs.length * 2) (by omega)).trans (ll_get rs).1
              have e4 : ∀ m, (w10.drewN m).cell? ⟨G2, (rs.length + 1) * 2, none⟩ = some (.int .i64 77) := fun m => (lv.cellAt ((rs.length + 1) * 2) (by omega)).trans (ll_get rs).2
              have HE : Hid (∀ m, Below w.heap.size w (w10.drewN m)) := fun m => bdn K2.out.2.1 m
              clear gv lv K2
              go_wp2_with (go_at_call 9; refine HSR.mono ?_; rintro e w11 ⟨rfl, n3, hw⟩; rw [hw]; clear hw)
              go_ret
              exact ⟨by first | rfl | simp, HE.out _⟩
end Go.Proofs.Ytikbfhhkkplpbaa
