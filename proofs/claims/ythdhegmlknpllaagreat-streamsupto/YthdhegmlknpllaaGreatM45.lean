import Derived.Test.YthdhegmlknpllaaGreatM29
import Derived.Deep.RegionHeld3
import Derived.Test.YthdhegmlknpllaaGreatM38
import Derived.Test.YthdhegmlknpllaaGreatM44
/-
  The walks of last (73), accepts (64).
-/
namespace Go.Proofs.YthdhegmlknpllaaGreat
open Go.RowKit Go.Maps Go.MuLone

/-- The guid of the snapshot that came last; 0: there is none. -/
def lastG (l : List Sn) : Int := (l.getLast?.map Sn.guid).getD 0

set_option maxRecDepth 100000 in
set_option maxHeartbeats 1600000 in
theorem last_any (B b : Nat) (q : Int) (s : Sto) (w : World) (h : Rep B w b q s) (hl : s.ss.length ≤ 12) :
    Calls Tryz.prog 109 #[.pointer (some ⟨b, 0, none⟩)] w fun e w' => e = .returned (.int .i64 (lastG s.ss)) ∧ Fr [] w w' := by
  obtain ⟨ao, cap, hsv⟩ := own_shape h.ss
  have c4 : w.cell? ⟨b, 4, none⟩ = some (.slice ao s.ss.length cap) := by rw [← hsv]; exact h.cells.2.2.2.1
  obtain ⟨n, hn⟩ : ∃ n, s.ss.length = n := ⟨_, rfl⟩
  by_cases h0 : n = 0
  · subst h0
    have e0 : s.ss = [] := List.eq_nil_of_length_eq_zero hn
    have e1 : lastG s.ss = 0 := by rw [e0]; rfl
    rw [e1]
    rw [hn] at c4
    clear h hsv hn e0 e1
    go_enter Tryz.func109, Tryz.ntmps109
    go_wp2
    go_ret
    exact ⟨rfl, Fr.refl _ _⟩
  · have hj : n - 1 < s.ss.length := by omega
    have hx : s.ss[n - 1]? = some (s.ss[n - 1]) := List.getElem?_eq_getElem hj
    obtain ⟨gg, cap', hsv', hcap, d0, k1, k2⟩ := ss_at h hx
    clear k1 k2
    rw [hsv] at hsv'
    obtain ⟨rfl, rfl⟩ : ao = some ⟨gg, 0, none⟩ ∧ cap = cap' := by
      have := Value.slice.inj hsv'
      exact ⟨this.1, this.2.2⟩
    have e1 : lastG s.ss = s.ss[n - 1].guid := by
      unfold lastG
      rw [List.getLast?_eq_getElem?, hn, hx]
      rfl
    rw [e1]
    obtain ⟨g, hg⟩ : ∃ g, s.ss[n - 1].guid = g := ⟨_, rfl⟩
    rw [hg] at d0 ⊢
    rw [hn] at c4 hcap
    obtain ⟨j, hjj⟩ : ∃ j, n - 1 = j := ⟨_, rfl⟩
    rw [hjj] at d0
    have q1 : IntKind.i64.wrap ((n : Int) - 1) = (j : Int) := by rw [show (n : Int) - 1 = (j : Int) by omega]; exact wrap_fit ⟨by omega, by omega⟩
    have q2 : (n : Int) - 1 = (j : Int) := by omega
    have q3 : wrap64 (j : Int) = (j : Int) := wrap64_fit ⟨by omega, by omega⟩
    have j0 : (0 : Int) ≤ (j : Int) := by omega
    have j1 : (j : Int) < (n : Int) := by omega
    have n0 : ¬ (n : Int) = 0 := by omega
    have n1 : ((n : Int) == 0) = false := by simpa using n0
    clear h hsv hn hj hx hsv' e1 hg hjj
    go_enter Tryz.func109, Tryz.ntmps109
    go_wp2
    go_region
    all_goals
      go_wp2
      go_ret
      exact ⟨rfl, (Fr.refl _ _).drew⟩

set_option maxRecDepth 100000 in
set_option maxHeartbeats 1600000 in
theorem accepts_dup (B b : Nat) (q : Int) (s : Sto) (f t m : Int) (v : Value) (j : Nat) (w : World) (h : Rep B w b q s) (hl : s.ss.length ≤ 12) (hv : ∃ a n c, v = .slice a n c) (hf : fi (fun y : Sn => y.guid == t) 0 s.ss = (j : Int)) :
    Calls Tryz.prog 80 #[.pointer (some ⟨b, 0, none⟩), .agg #[.int .i64 f, .int .i64 t, .int .i64 m, .int .i64 s.vol.length, v]] w fun e w' => e = .returned (.int .i64 7) ∧ Fr [] w w' := by
  obtain ⟨va, vn, vc, rfl⟩ := hv
  obtain ⟨bx, hbx⟩ : ∃ bx, w.heap.size = bx := ⟨_, rfl⟩
  obtain ⟨w0, hw0⟩ : ∃ w0, w.alloc (.cells #[.int .i64 f, .int .i64 t, .int .i64 m, .int .i64 s.vol.length, .slice va vn vc] 135) = w0 := ⟨_, rfl⟩
  have b0 : w0.heap[bx]? = some (.cells #[.int .i64 f, .int .i64 t, .int .i64 m, .int .i64 s.vol.length, .slice va vn vc] 135 (0, 0)) := by rw [← hw0, ← hbx]; exact heap_alloc_new w _
  have F0 : Fr [] w w0 := by rw [← hw0]; exact (Fr.refl _ _).alloc _
  have R0 : Rep B w0 b q s := h.kept0 F0
  have HB : Hid (w0.heap[bx]? = some (.cells #[.int .i64 f, .int .i64 t, .int .i64 m, .int .i64 s.vol.length, .slice va vn vc] 135 (0, 0)) ∧ Fr [] w w0 ∧ Rep B w0 b q s ∧ bx < w0.heap.size) := ⟨b0, F0, R0, (Array.getElem?_eq_some_iff.1 b0).1⟩
  have HX : Hid (∀ W, Fr [] w0 W → W.cell? ⟨bx, 0, none⟩ = some (.int .i64 f) ∧ W.cell? ⟨bx, 1, none⟩ = some (.int .i64 t)) := fun W hW => by
    have hh : W.heap[bx]? = _ := (hW.block bx (Array.getElem?_eq_some_iff.1 b0).1 (by simp)).trans b0
    exact ⟨by rw [cell_of hh]; rfl, by rw [cell_of hh]; rfl⟩
  have e1 : w0.cell? ⟨bx, 1, none⟩ = some (.int .i64 t) := (HX.out w0 (Fr.refl _ _)).2
  have e3 : w0.cell? ⟨bx, 3, none⟩ = some (.int .i64 s.vol.length) := by rw [cell_of b0]; rfl
  have c3 : w0.cell? ⟨b, 3, none⟩ = some (.slice (some ⟨s.vb, 0, none⟩) s.vol.length s.vol.length) := R0.cells.2.2.1
  obtain ⟨sa, sc, hsv⟩ := own_shape h.ss
  have HV : Hid (s.sv = .slice sa s.ss.length sc) := hsv
  have hw0' := hw0
  have HS : Hid (∀ W, Rep B W b q s → Calls Tryz.prog 65 #[.pointer (some ⟨b, 0, none⟩), .int .i64 t] W fun e w' => e = .returned (.int .i64 (j : Int)) ∧ Fr [] W w') := fun W hW => by
    have := findSnapshot_any B b q s t W hW (by omega)
    rw [hf] at this
    exact this
  obtain ⟨nv, hnv⟩ : ∃ nv, s.vol.length = nv := ⟨_, rfl⟩
  rw [hnv] at e3 c3 hw0' HB ⊢
  have j0 : (0 : Int) ≤ (j : Int) := by omega
  clear h hw0 b0 F0 R0 hsv hf hnv
  go_enter Tryz.func80, Tryz.ntmps80
  go_wp2
  go_region
  all_goals
    go_wp2_with (go_at_call 65; refine (HS.out _ (HB.out.2.2.1.kept0 (Fr.refl _ _).drew)).mono ?_; rintro e w2 ⟨rfl, hfr⟩; have HR2 : Hid (Fr [] w w2) := (HB.out.2.1.drew).trans hfr (by simp); clear hfr)
    go_ret
    exact ⟨rfl, HR2.out⟩

set_option maxRecDepth 100000 in
set_option maxHeartbeats 1600000 in
theorem accepts_ok (B b : Nat) (q : Int) (s : Sto) (f t m : Int) (v : Value) (w : World) (h : Rep B w b q s) (hl : s.ss.length < 12) (hm : s.ms.length ≤ 12) (hv : ∃ a n c, v = .slice a n c) (hf : fi (fun y : Sn => y.guid == t) 0 s.ss = -1) (hf2 : fi (fun y : Int × Int => y.1 == t) 0 s.ms = -1) (hlast : f = lastG s.ss) :
    Calls Tryz.prog 80 #[.pointer (some ⟨b, 0, none⟩), .agg #[.int .i64 f, .int .i64 t, .int .i64 m, .int .i64 s.vol.length, v]] w fun e w' => e = .returned (.int .i64 0) ∧ Fr [] w w' := by
  obtain ⟨va, vn, vc, rfl⟩ := hv
  obtain ⟨bx, hbx⟩ : ∃ bx, w.heap.size = bx := ⟨_, rfl⟩
  obtain ⟨w0, hw0⟩ : ∃ w0, w.alloc (.cells #[.int .i64 f, .int .i64 t, .int .i64 m, .int .i64 s.vol.length, .slice va vn vc] 135) = w0 := ⟨_, rfl⟩
  have b0 : w0.heap[bx]? = some (.cells #[.int .i64 f, .int .i64 t, .int .i64 m, .int .i64 s.vol.length, .slice va vn vc] 135 (0, 0)) := by rw [← hw0, ← hbx]; exact heap_alloc_new w _
  have F0 : Fr [] w w0 := by rw [← hw0]; exact (Fr.refl _ _).alloc _
  have R0 : Rep B w0 b q s := h.kept0 F0
  have HB : Hid (w0.heap[bx]? = some (.cells #[.int .i64 f, .int .i64 t, .int .i64 m, .int .i64 s.vol.length, .slice va vn vc] 135 (0, 0)) ∧ Fr [] w w0 ∧ Rep B w0 b q s ∧ bx < w0.heap.size) := ⟨b0, F0, R0, (Array.getElem?_eq_some_iff.1 b0).1⟩
  have HX : Hid (∀ W, Fr [] w0 W → W.cell? ⟨bx, 0, none⟩ = some (.int .i64 f) ∧ W.cell? ⟨bx, 1, none⟩ = some (.int .i64 t)) := fun W hW => by
    have hh : W.heap[bx]? = _ := (hW.block bx (Array.getElem?_eq_some_iff.1 b0).1 (by simp)).trans b0
    exact ⟨by rw [cell_of hh]; rfl, by rw [cell_of hh]; rfl⟩
  have e1 : w0.cell? ⟨bx, 1, none⟩ = some (.int .i64 t) := (HX.out w0 (Fr.refl _ _)).2
  have e3 : w0.cell? ⟨bx, 3, none⟩ = some (.int .i64 s.vol.length) := by rw [cell_of b0]; rfl
  have c3 : w0.cell? ⟨b, 3, none⟩ = some (.slice (some ⟨s.vb, 0, none⟩) s.vol.length s.vol.length) := R0.cells.2.2.1
  obtain ⟨sa, sc, hsv⟩ := own_shape h.ss
  have HV : Hid (s.sv = .slice sa s.ss.length sc) := hsv
  have hw0' := hw0
  have HS : Hid (∀ W, Rep B W b q s → Calls Tryz.prog 65 #[.pointer (some ⟨b, 0, none⟩), .int .i64 t] W fun e w' => e = .returned (.int .i64 (-1)) ∧ Fr [] W w') := fun W hW => by
    have := findSnapshot_any B b q s t W hW (by omega)
    rw [hf] at this
    exact this
  have HM : Hid (∀ W, Rep B W b q s → Calls Tryz.prog 69 #[.pointer (some ⟨b, 0, none⟩), .int .i64 t] W fun e w' => e = .returned (.int .i64 (-1)) ∧ Fr [] W w') := fun W hW => by
    have := findMark_any B b q s t W hW (by omega)
    rw [hf2] at this
    exact this
  have HLa : Hid (∀ W, Rep B W b q s → Calls Tryz.prog 109 #[.pointer (some ⟨b, 0, none⟩)] W fun e w' => e = .returned (.int .i64 f) ∧ Fr [] W w') := fun W hW => by
    rw [hlast]
    exact last_any B b q s W hW (by omega)
  obtain ⟨nv, hnv⟩ : ∃ nv, s.vol.length = nv := ⟨_, rfl⟩
  rw [hnv] at e3 c3 hw0' HB ⊢
  obtain ⟨ns, hns⟩ : ∃ ns, s.ss.length = ns := ⟨_, rfl⟩
  rw [hns] at hl HV
  have hl2 : ¬ (12 : Int) ≤ (ns : Int) := by omega
  clear h hw0 b0 F0 R0 hsv hf hf2 hnv hlast hns
  go_enter Tryz.func80, Tryz.ntmps80
  go_wp2
  go_region
  go_wp2_with (first
    | (go_at_call 65; refine (HS.out _ (HB.out.2.2.1.kept0 (Fr.refl _ _).drew)).mono ?_; rintro e w2 ⟨rfl, hfr⟩; have HR2 : Hid (Fr [] w0 w2 ∧ Rep B w2 b q s) := ⟨((Fr.refl [] w0).drew).trans hfr (by simp), (HB.out.2.2.1.kept0 (Fr.refl _ _).drew).kept0 hfr⟩; have x2 := (HX.out w2 HR2.out.1).2; clear hfr)
    | (go_at_call 69; refine (HM.out _ HR2.out.2).mono ?_; rintro e w3 ⟨rfl, hfr⟩; have HR3 : Hid (Fr [] w0 w3 ∧ Rep B w3 b q s) := ⟨HR2.out.1.trans hfr (by simp), HR2.out.2.kept0 hfr⟩; clear hfr))
  have dd : w3.drew.cell? ⟨bx, 0, none⟩ = some (.int .i64 f) := (HX.out w3 HR3.out.1).1
  go_region_held3 (fun w' => w'.cell? ⟨bx, 0, none⟩ = some (.int .i64 f))
    (first
      | go_keep
      | exact dd
      | exact (HX.out _ HR4.out.1).1)
    (first
      | (go_at_call 109; refine (HLa.out _ (HR3.out.2.kept0 (Fr.refl _ _).drew)).mono ?_; rintro e w4 ⟨rfl, hfr⟩; have HR4 : Hid (Fr [] w0 w4 ∧ Rep B w4 b q s) := ⟨(HR3.out.1.drew).trans hfr (by simp), (HR3.out.2.kept0 (Fr.refl _ _).drew).kept0 hfr⟩; clear hfr))
  all_goals
    have c4 : w4.cell? ⟨b, 4, none⟩ = some (.slice sa ns sc) := by rw [← HV.out]; exact HR4.out.2.cells.2.2.2.1
    go_wp2
    go_ret
    exact ⟨rfl, HB.out.2.1.trans HR4.out.1 (by simp)⟩
end Go.Proofs.YthdhegmlknpllaaGreat

/-
  The walk of Receive (32), where the stream goes with what there is.
-/
namespace Go.Proofs.YthdhegmlknpllaaGreat
open Go.RowKit Go.Maps Go.MuLone

def World.put5 (w : World) (vb k : Nat) (x : Ct) : World :=
  ((((w.setCell ⟨vb, k * 5, none⟩ (.int .u8 (x.x.a.toNat : Int))).setCell ⟨vb, k * 5 + 1, none⟩ (.int .u8 (x.x.b.toNat : Int))).setCell ⟨vb, k * 5 + 2, none⟩ (.int .u8 (x.x.c.toNat : Int))).setCell ⟨vb, k * 5 + 3, none⟩ (.int .u8 (x.x.d.toNat : Int))).setCell ⟨vb, k * 5 + 4, none⟩ (.int .i64 x.n)
theorem put5_other (w : World) (vb k : Nat) (x : Ct) (j : Nat) (hj : j ≠ vb) : (World.put5 w vb k x).heap[j]? = w.heap[j]? := by
  unfold World.put5
  rw [heap_setCell_other _ _ _ _ hj, heap_setCell_other _ _ _ _ hj, heap_setCell_other _ _ _ _ hj, heap_setCell_other _ _ _ _ hj, heap_setCell_other _ _ _ _ hj]
theorem Rep.put5 {B : Nat} {w : World} {b : Nat} {q : Int} {s : Sto} (h : Rep B w b q s) (k : Nat) (x : Ct) (hk : k < s.vol.length) : Rep B (World.put5 w s.vb k x) b q { s with vol := s.vol.set k x } := by
  obtain ⟨a1, a2, a3, a4, a5, a6⟩ := h.apart
  have ho := put5_other w s.vb k x
  refine ⟨?_, ?_, ?_, ?_, ?_, ?_, h.hb, h.hvb, h.hmb⟩
  · rw [ho b (Ne.symm a1), h.blk]; simp [Sto.blk]
  · show (World.put5 w s.vb k x).heap[s.vb]? = some (.cells (volC (s.vol.set k x)).toArray 112 (0, 0))
    have h1 := heap_setCell_same w s.vb (k * 5) _ _ (.int .u8 (x.x.a.toNat : Int)) h.vol
    have h2 := heap_setCell_same _ s.vb (k * 5 + 1) _ _ (.int .u8 (x.x.b.toNat : Int)) h1
    have h3 := heap_setCell_same _ s.vb (k * 5 + 2) _ _ (.int .u8 (x.x.c.toNat : Int)) h2
    have h4 := heap_setCell_same _ s.vb (k * 5 + 3) _ _ (.int .u8 (x.x.d.toNat : Int)) h3
    have h5 := heap_setCell_same _ s.vb (k * 5 + 4) _ _ (.int .i64 x.n) h4
    unfold World.put5
    rw [h5, ← set5 s.vol k x.x x.n hk]
    simp [u8]
  · exact own_of_block h.ss (fun j hj => ho j (a4 j hj).2.1)
  · exact h.th.of_block (ho s.mb a3)
  · exact own_of_block h.ms (fun j hj => ho j (a5 j hj).2.1)
  · exact own_of_block h.lg (fun j hj => ho j (a6 j hj).2.1)
theorem put5_fr {F : List Nat} {w w1 : World} {vb k : Nat} {x : Ct} (h : Fr F w w1) (hv : vb ∈ F) : Fr F w (World.put5 w1 vb k x) :=
  ((((h.setCell _ (Or.inl hv)).setCell _ (Or.inl hv)).setCell _ (Or.inl hv)).setCell _ (Or.inl hv)).setCell _ (Or.inl hv)

/-- The volume while it becomes what it was at a snapshot. -/
def vk (s : Sto) (f : Int) (k : Nat) : List Ct := (List.range k).map (fun j : Nat => s.th f (j : Int)) ++ s.vol.drop k
theorem vk_zero (s : Sto) (f : Int) : vk s f 0 = s.vol := by simp [vk]
theorem vk_len (s : Sto) (f : Int) (k : Nat) (h : k ≤ s.vol.length) : (vk s f k).length = s.vol.length := by simp [vk]; omega
theorem vk_succ (s : Sto) (f : Int) (k : Nat) (h : k < s.vol.length) : (vk s f k).set k (s.th f (k : Int)) = vk s f (k + 1) := by
  unfold vk
  rw [List.set_append_right _ _ (by simp), List.drop_eq_getElem_cons h, List.length_map, List.length_range, Nat.sub_self, List.set_cons_zero, List.range_succ, List.map_append, List.append_assoc]
  rfl
/-- The volume while the blocks of a stream are laid into it. -/
def fv (c : Int) (v : List Ct) (l : List (Int × B4)) : List Ct := l.foldl (fun v o => v.set o.1.toNat ⟨o.2, c⟩) v
theorem fv_len (c : Int) : ∀ (l : List (Int × B4)) (v : List Ct), (fv c v l).length = v.length
  | [], _ => rfl
  | x :: r, v => by
    have := fv_len c r (v.set x.1.toNat ⟨x.2, c⟩)
    rw [List.length_set] at this
    exact this
theorem fv_succ (c : Int) (v : List Ct) (l : List (Int × B4)) (k : Nat) (h : k < l.length) : fv c v (l.take (k + 1)) = (fv c v (l.take k)).set l[k].1.toNat ⟨l[k].2, c⟩ := by
  unfold fv
  rw [List.take_succ_eq_append_getElem h, List.foldl_append]
  rfl
def rvol (s : Sto) (f : Int) (l : List (Int × B4)) : List Ct := fv s.came (vk s f s.vol.length) l
def Sto.recv (s : Sto) (f t m : Int) (l : List (Int × B4)) (tx : ByteArray) (sv lv : Value) : Sto := (Sto.add { s with vol := rvol s f l } t m sv).noted 84 tx lv

structure RJ (B b : Nat) (w wr : World) (s : Sto) (V : List Ct) (bx : Nat) (f t m : Int) (n : Nat) (v : Value) (l : List (Int × B4)) : Prop where
  rep : Rep B wr b 1 { s with vol := V }
  fr : Fr (foot b s) w wr
  box : wr.heap[bx]? = some (.cells #[.int .i64 f, .int .i64 t, .int .i64 m, .int .i64 n, v] 135 (0, 0))
  row : wr.ownsRow w.heap.size 137 5 v l.length (blC l)

theorem RJ.put {B b : Nat} {w wr : World} {s : Sto} {V : List Ct} {bx : Nat} {f t m : Int} {n : Nat} {v : Value} {l : List (Int × B4)} (h : RJ B b w wr s V bx f t m n v l) (k : Nat) (x : Ct) (hk : k < V.length) : RJ B b w (World.put5 wr s.vb k x) s (V.set k x) bx f t m n v l := by
  have h2 : wr.heap[s.vb]? = some (.cells (volC V).toArray 112 (0, 0)) := h.rep.vol
  have hx : bx ≠ s.vb := fun e => by
    have h1 := h.box
    rw [← e, h1] at h2
    simp at h2
  have hr := h.rep.put5 k x hk
  refine ⟨hr, put5_fr h.fr (by simp [foot]), ?_, own_of_block h.row (fun j hj => put5_other _ _ _ _ _ (fun e => ?_))⟩
  · rw [put5_other _ _ _ _ _ hx]
    exact h.box
  · obtain ⟨_, cur, h1⟩ := own_tag h.row hj
    rw [← e, h1] at h2
    simp at h2
theorem RJ.same {B b : Nat} {w wr w' : World} {s : Sto} {V : List Ct} {bx : Nat} {f t m : Int} {n : Nat} {v : Value} {l : List (Int × B4)} (h : RJ B b w wr s V bx f t m n v l) (hf : Fr [] wr w') : RJ B b w w' s V bx f t m n v l :=
  ⟨h.rep.kept0 hf, h.fr.trans hf (by simp), by rw [hf.block bx (Array.getElem?_eq_some_iff.1 h.box).1 (by simp)]; exact h.box, own_fr' h.row hf⟩
/-- The cells of a block of the volume. -/
theorem RJ.vol {B b : Nat} {w wr : World} {s : Sto} {V : List Ct} {bx : Nat} {f t m : Int} {n : Nat} {v : Value} {l : List (Int × B4)} (h : RJ B b w wr s V bx f t m n v l) (k : Nat) (hk : k < V.length) : ∃ z : Ct, wr.cell? ⟨s.vb, k * 5, none⟩ = some (.int .u8 (z.x.a.toNat : Int)) ∧ wr.cell? ⟨s.vb, k * 5 + 1, none⟩ = some (.int .u8 (z.x.b.toNat : Int)) ∧ wr.cell? ⟨s.vb, k * 5 + 2, none⟩ = some (.int .u8 (z.x.c.toNat : Int)) ∧ wr.cell? ⟨s.vb, k * 5 + 3, none⟩ = some (.int .u8 (z.x.d.toNat : Int)) ∧ wr.cell? ⟨s.vb, k * 5 + 4, none⟩ = some (.int .i64 z.n) ∧ ∀ j, wr.frozen? ⟨s.vb, j, none⟩ = false := by
  have h2 : wr.heap[s.vb]? = some (.cells (volC V).toArray 112 (0, 0)) := h.rep.vol
  obtain ⟨g0, g1, g2, g3, g4⟩ := volC_get V k hk
  refine ⟨V[k], ?_, ?_, ?_, ?_, ?_, fun j => froz_of h2 j⟩
  · rw [cell_of h2, List.getElem?_toArray, g0]; rfl
  · rw [cell_of h2, List.getElem?_toArray, g1]; rfl
  · rw [cell_of h2, List.getElem?_toArray, g2]; rfl
  · rw [cell_of h2, List.getElem?_toArray, g3]; rfl
  · rw [cell_of h2, List.getElem?_toArray, g4]

set_option maxRecDepth 100000 in
set_option maxHeartbeats 6400000 in
theorem receive_ok (B b : Nat) (s : Sto) (tx : ByteArray) (w : World) (h : Rep B w b 0 s) (f t m : Int) (l : List (Int × B4))
    (hp : ∀ W, Calls Tryz.prog 79 #[.string tx] W fun e w' => ∃ v, e = .returned (.tuple #[.agg #[.int .i64 f, .int .i64 t, .int .i64 m, .int .i64 (s.vol.length : Int), v], .bool true]) ∧ w'.ownsRow W.heap.size 137 5 v l.length (blC l) ∧ Fr [] W w')
    (hs : s.ss.length < 12) (hms : s.ms.length ≤ 12) (hf1 : fi (fun y : Sn => y.guid == t) 0 s.ss = -1) (hf2 : fi (fun y : Int × Int => y.1 == t) 0 s.ms = -1) (hlast : f = lastG s.ss)
    (hr : ∀ k (h : k < l.length), 0 ≤ l[k].1 ∧ l[k].1 < s.vol.length) (hll : l.length ≤ 16) (hfv : In64 f) (htv : In64 t) (hc : 0 ≤ s.came ∧ s.came ≤ 1000000000000) (hv : s.vol.length ≤ 16) (hcnt : s.cnt + s.vol.length < maxLen) (hlog : s.log.length ≤ 140000000000000) (htx : tx.size ≤ 1000) :
    Calls Tryz.prog 52 #[.pointer (some ⟨b, 0, none⟩), .string tx] w fun e w' => e = .returned (.tuple #[.int .i64 t, .int .i64 0]) ∧ ∃ sv lv, Rep B w' b 0 (s.recv f t m l tx sv lv) ∧ Fr (foot b s) w w' ∧ (∀ k, sv.ownBlock = some k → s.sv.ownBlock = some k ∨ w.heap.size ≤ k) ∧ (∀ k, lv.ownBlock = some k → s.lv.ownBlock = some k ∨ w.heap.size ≤ k) := by
  have R1 := h.lock 1
  obtain ⟨w1, hw1⟩ : ∃ w1, w.setCell ⟨b, 0, none⟩ (.int .i32 1) = w1 := ⟨_, rfl⟩
  rw [hw1] at R1
  have HL := lock_free Tryz.muLib ⟨b, 0, none⟩ w h.cells.1 (h.frozen 0)
  have F1 : Fr (foot b s) w w1 := by rw [← hw1]; exact fr_lock b s w _
  have HF : Hid (w.setCell ⟨b, 0, none⟩ (.int .i32 1) = w1 ∧ Rep B w1 b 1 s ∧ Fr (foot b s) w w1) := ⟨hw1, R1, F1⟩
  obtain ⟨nv, hnv⟩ : ∃ nv, s.vol.length = nv := ⟨_, rfl⟩
  rw [hnv] at hp hr hv hcnt
  have HP : Hid (∀ W, Calls Tryz.prog 79 #[.string tx] W fun e w' => ∃ v, e = .returned (.tuple #[.agg #[.int .i64 f, .int .i64 t, .int .i64 m, .int .i64 (nv : Int), v], .bool true]) ∧ w'.ownsRow W.heap.size 137 5 v l.length (blC l) ∧ Fr [] W w') := hp
  have HAc : Hid (∀ W v, Rep B W b 1 s → (∃ a n c, v = .slice a n c) → Calls Tryz.prog 80 #[.pointer (some ⟨b, 0, none⟩), .agg #[.int .i64 f, .int .i64 t, .int .i64 m, .int .i64 (nv : Int), v]] W fun e w' => e = .returned (.int .i64 0) ∧ Fr [] W w') := fun W v hW hv => by
    have := accepts_ok B b 1 s f t m v W hW hs hms hv hf1 hf2 hlast
    rw [hnv] at this
    exact this
  have HFa : Hid (s.vol.length = nv ∧ In64 f ∧ In64 t ∧ (∀ k (h : k < l.length), 0 ≤ l[k].1 ∧ l[k].1 < nv) ∧ w.heap.size = w.heap.size) := ⟨hnv, hfv, htv, hr, rfl⟩
  have HAd : Hid (∀ W, Rep B W b 1 { s with vol := rvol s f l } → Calls Tryz.prog 63 #[.pointer (some ⟨b, 0, none⟩), .int .i64 t, .int .i64 m] W fun e w' => e = .returned (.tuple #[]) ∧ ∃ sv, Rep B w' b 1 (Sto.add { s with vol := rvol s f l } t m sv) ∧ Fr (foot b s) W w' ∧ (∀ k, sv.ownBlock = some k → s.sv.ownBlock = some k ∨ W.heap.size ≤ k)) := fun W hW => by
    have e : (rvol s f l).length = nv := by unfold rvol; rw [fv_len, vk_len _ _ _ (Nat.le_refl _), hnv]
    exact add_any B b 1 { s with vol := rvol s f l } t m W hW hs hc (by show (rvol s f l).length ≤ 16; omega) (by show s.cnt + (rvol s f l).length < maxLen; omega) htv
  have HNt : Hid (∀ W sv, Rep B W b 1 (Sto.add { s with vol := rvol s f l } t m sv) → Calls Tryz.prog 21 #[.pointer (some ⟨b, 0, none⟩), .int .u8 84, .string tx] W fun e w' => e = .returned (.tuple #[]) ∧ ∃ lv, Rep B w' b 1 ((Sto.add { s with vol := rvol s f l } t m sv).noted 84 tx lv) ∧ Fr (foot b (Sto.add { s with vol := rvol s f l } t m sv)) W w' ∧ (∀ k, lv.ownBlock = some k → s.lv.ownBlock = some k ∨ W.heap.size ≤ k)) := fun W sv hW => note_any B b 1 (Sto.add { s with vol := rvol s f l } t m sv) 84 tx W hW htx hlog
  unfold Sto.recv
  clear h R1 F1 hw1 hp hf1 hf2 hlast hr hfv htv hc hcnt hlog htx hs hms hnv
  go_enter_defers Tryz.func52, Tryz.ntmps52
  go_wp2_with (first
    | (go_at_call 23; refine HL.mono ?_; rintro e w' ⟨rfl, hw'⟩; rw [HF.out.1] at hw'; have hw' := hw'.symm; subst hw')
    | (go_at_call 79; refine (HP.out _).mono ?_; rintro e w2 ⟨v, rfl, o2, hfr⟩
       obtain ⟨va, vc, hva⟩ := own_shape o2
       subst hva
       have HR2 : Hid (RJ B b w (w2.alloc (.cells #[.int .i64 f, .int .i64 t, .int .i64 m, .int .i64 (nv : Int), .slice va l.length vc] 135)) s s.vol w2.heap.size f t m nv (.slice va l.length vc) l) := ⟨(HF.out.2.1.kept0 hfr).kept0 ((Fr.refl _ _).alloc _), (HF.out.2.2.trans hfr (by simp)).alloc _, heap_alloc_new w2 _, (by have o3 := o2.alloc (.cells #[.int .i64 f, .int .i64 t, .int .i64 m, .int .i64 (nv : Int), .slice va l.length vc] 135); refine ⟨o3.1, ?_⟩; rcases o3.2 with h0 | ⟨g, cap, cur, h1, h2, r⟩; exact .inl h0; exact .inr ⟨g, cap, cur, h1, Nat.le_trans HF.out.2.2.size h2, r⟩)⟩
       clear hfr o2)
    | (go_at_call 80; refine (HAc.out _ _ HR2.out.rep ⟨_, _, _, rfl⟩).mono ?_; rintro e w3 ⟨rfl, hfr⟩
       have HR3 : Hid (RJ B b w w3 s s.vol w2.heap.size f t m nv (.slice va l.length vc) l) := HR2.out.same hfr
       have c3 : w3.cell? ⟨b, 3, none⟩ = some (.slice (some ⟨s.vb, 0, none⟩) nv nv) := (by rw [← HFa.out.1]; exact HR3.out.rep.cells.2.2.1)
       clear hfr))
  obtain ⟨bx, hbx⟩ : ∃ bx, w2.heap.size = bx := ⟨_, rfl⟩
  rw [hbx] at HR3
  rw [hbx]
  clear HR2 hbx HL HP HAc
  go_loopw [37] (fun i wr => ∃ k : Nat, k ≤ nv ∧ i = .int .i64 k ∧ Hid (RJ B b w wr s (vk s f k) bx f t m nv (.slice va l.length vc) l)) (fun i _ => nv - (intOf i).toNat)
  case atStart => exact ⟨0, Nat.zero_le _, rfl, by rw [vk_zero]; exact HR3⟩
  case round =>
    obtain ⟨k, hk, rfl, HK⟩ := hrel
    obtain ⟨W3, hW3⟩ : ∃ W3, W3 = wr := ⟨_, rfl⟩
    subst hW3
    clear HR3 c3
    have hvl : (vk s f k).length = nv := by rw [vk_len _ _ _ (by rw [HFa.out.1]; exact hk), HFa.out.1]
    by_cases hlt : k < nv
    · have hltz : (k : Int) < (nv : Int) := by omega
      obtain ⟨z, v0, v1, v2, v3, v4, vz⟩ := HK.out.vol k (by omega)
      have z0 := vz (k * 5)
      have z1 := vz (k * 5 + 1)
      have z2 := vz (k * 5 + 2)
      have z3 := vz (k * 5 + 3)
      have z4 := vz (k * 5 + 4)
      have j3 : W3.cell? ⟨b, 3, none⟩ = some (.slice (some ⟨s.vb, 0, none⟩) nv nv) := by have := HK.out.rep.cells.2.2.1; simp only [hvl] at this; exact this
      have j5 : W3.cell? ⟨b, 5, none⟩ = some (.map (some s.mb)) := HK.out.rep.cells.2.2.2.2.1
      have x0 : W3.cell? ⟨bx, 0, none⟩ = some (.int .i64 f) := by rw [cell_of HK.out.box]; rfl
      have lk0 : (Instr.lookup 64 (.map (some s.mb)) (.agg #[.int .i64 f, .int .i64 k]) false).run Tryz.prog W3 = .ok (s.th f (k : Int)).val W3 := HK.out.rep.look HFa.out.2.1 (i := (k : Int)) ⟨by omega, by omega⟩
      have lk1 : (Instr.lookup 64 (.map (some s.mb)) (.agg #[.int .i64 f, .int .i64 k]) false).run Tryz.prog W3.drew = .ok (s.th f (k : Int)).val W3.drew := (HK.out.rep.kept0 (Fr.refl _ _).drew).look HFa.out.2.1 (i := (k : Int)) ⟨by omega, by omega⟩
      have HPt : Hid (RJ B b w (World.put5 W3 s.vb k (s.th f (k : Int))).drew s (vk s f (k + 1)) bx f t m nv (.slice va l.length vc) l) := by
        have := (HK.out.put k (s.th f (k : Int)) (by omega)).same (Fr.refl _ _).drew
        rw [vk_succ s f k (by rw [HFa.out.1]; exact hlt)] at this
        exact this
      obtain ⟨y, hy⟩ : ∃ y, s.th f (k : Int) = y := ⟨_, rfl⟩
      rw [hy] at lk0 lk1 HPt
      have lk : (Instr.lookup 64 (.map (some s.mb)) (.agg #[.int .i64 f, .int .i64 k]) false).run Tryz.prog W3 = .ok (.agg #[.int .u8 (y.x.a.toNat : Int), .int .u8 (y.x.b.toNat : Int), .int .u8 (y.x.c.toNat : Int), .int .u8 (y.x.d.toNat : Int), .int .i64 y.n]) W3 := lk0
      have lk2 : (Instr.lookup 64 (.map (some s.mb)) (.agg #[.int .i64 f, .int .i64 k]) false).run Tryz.prog W3.drew = .ok (.agg #[.int .u8 (y.x.a.toNat : Int), .int .u8 (y.x.b.toNat : Int), .int .u8 (y.x.c.toNat : Int), .int .u8 (y.x.d.toNat : Int), .int .i64 y.n]) W3.drew := lk1
      clear lk0 lk1 hy vz hvl
      go_wp2
      refine wp_region_noPanic ?_
      go_region
      refine NoPanic.normal ?_
      go_wp2
      go_roundw
      case rel => exact ⟨k + 1, by omega, by go_num, HPt⟩
      case measure => simp [intOf]; omega
    · have hkk : k = nv := by omega
      subst hkk
      have x4 : W3.cell? ⟨bx, 4, none⟩ = some (.slice va l.length vc) := by rw [cell_of HK.out.box]; rfl
      obtain ⟨V, hV⟩ : ∃ V, vk s f k = V := ⟨_, rfl⟩
      rw [hV] at hvl
      have HVe : Hid (vk s f k = V ∧ V.length = k ∧ rvol s f l = fv s.came V l) := ⟨hV, hvl, by unfold rvol; rw [HFa.out.1, hV]⟩
      rw [hV] at HK
      clear hV hvl
      go_wp2
      go_loopw [59] (fun i wr => ∃ j : Nat, j ≤ l.length ∧ i = .int .i64 j ∧ Hid (RJ B b w wr s (fv s.came V (l.take j)) bx f t m k (.slice va l.length vc) l)) (fun i _ => l.length - (intOf i).toNat)
      case atStart => exact ⟨0, Nat.zero_le _, rfl, by simpa [fv] using HK⟩
      case round =>
        obtain ⟨j, hj, rfl, HJ⟩ := hrel
        obtain ⟨W4, hW4⟩ : ∃ W4, W4 = wr := ⟨_, rfl⟩
        subst hW4
        clear HK x4
        have hfl : (fv s.came V (l.take j)).length = k := by rw [fv_len]; exact HVe.out.2.1
        by_cases hlt2 : j < l.length
        · have hltz : (j : Int) < (l.length : Int) := by omega
          obtain ⟨lg, hlg, hc9, hcc⟩ := own_addr' HJ.out.row (by omega)
          subst hlg
          have hb5 := blC_get l j hlt2
          have hrj := HFa.out.2.2.2.1 j hlt2
          have hsu := fv_succ s.came V l j hlt2
          obtain ⟨x, hx⟩ : ∃ x, l[j] = x := ⟨_, rfl⟩
          rw [hx] at hb5 hrj hsu
          obtain ⟨x1, x2⟩ := x
          simp only at hb5 hrj hsu
          obtain ⟨p, hp⟩ : ∃ p : Nat, x1 = (p : Int) := ⟨x1.toNat, by omega⟩
          subst hp
          have hpk : p < k := by omega
          have hpz : (p : Int) < (k : Int) := by omega
          have hp0 : (0 : Int) ≤ (p : Int) := by omega
          rw [Int.toNat_natCast] at hsu
          have d0 : W4.cell? ⟨lg, j * 5, none⟩ = some (.int .i64 (p : Int)) := by rw [hcc _ (by omega)]; exact hb5.1
          have d1 : W4.cell? ⟨lg, j * 5 + 1, none⟩ = some (.int .u8 (x2.a.toNat : Int)) := by rw [hcc _ (by omega)]; exact hb5.2.1
          have d2 : W4.cell? ⟨lg, j * 5 + 2, none⟩ = some (.int .u8 (x2.b.toNat : Int)) := by rw [hcc _ (by omega)]; exact hb5.2.2.1
          have d3 : W4.cell? ⟨lg, j * 5 + 3, none⟩ = some (.int .u8 (x2.c.toNat : Int)) := by rw [hcc _ (by omega)]; exact hb5.2.2.2.1
          have d4 : W4.cell? ⟨lg, j * 5 + 4, none⟩ = some (.int .u8 (x2.d.toNat : Int)) := by rw [hcc _ (by omega)]; exact hb5.2.2.2.2
          obtain ⟨W5, hW5⟩ : ∃ W5, W4.alloc (.cells #[.int .i64 (p : Int), .int .u8 (x2.a.toNat : Int), .int .u8 (x2.b.toNat : Int), .int .u8 (x2.c.toNat : Int), .int .u8 (x2.d.toNat : Int)] 137) = W5 := ⟨_, rfl⟩
          obtain ⟨b9, hb9⟩ : ∃ b9, W4.heap.size = b9 := ⟨_, rfl⟩
          have n9 : W5.heap[b9]? = some (.cells #[.int .i64 (p : Int), .int .u8 (x2.a.toNat : Int), .int .u8 (x2.b.toNat : Int), .int .u8 (x2.c.toNat : Int), .int .u8 (x2.d.toNat : Int)] 137 (0, 0)) := by rw [← hW5, ← hb9]; exact heap_alloc_new W4 _
          have HJ5 : Hid (RJ B b w W5 s (fv s.came V (l.take j)) bx f t m k (.slice (some ⟨lg, 0, none⟩) l.length vc) l) := by rw [← hW5]; exact HJ.out.same ((Fr.refl _ _).alloc _)
          obtain ⟨z, v0, v1, v2, v3, v4, vz⟩ := HJ5.out.vol p (by omega)
          have z0 := vz (p * 5)
          have z1 := vz (p * 5 + 1)
          have z2 := vz (p * 5 + 2)
          have z3 := vz (p * 5 + 3)
          have z4 := vz (p * 5 + 4)
          have g0 : W5.cell? ⟨b9, 0, none⟩ = some (.int .i64 (p : Int)) := by rw [cell_of n9]; rfl
          have g1 : W5.cell? ⟨b9, 1, none⟩ = some (.int .u8 (x2.a.toNat : Int)) := by rw [cell_of n9]; rfl
          have g2 : W5.cell? ⟨b9, 2, none⟩ = some (.int .u8 (x2.b.toNat : Int)) := by rw [cell_of n9]; rfl
          have g3 : W5.cell? ⟨b9, 3, none⟩ = some (.int .u8 (x2.c.toNat : Int)) := by rw [cell_of n9]; rfl
          have g4 : W5.cell? ⟨b9, 4, none⟩ = some (.int .u8 (x2.d.toNat : Int)) := by rw [cell_of n9]; rfl
          have j3 : W5.cell? ⟨b, 3, none⟩ = some (.slice (some ⟨s.vb, 0, none⟩) k k) := by have := HJ5.out.rep.cells.2.2.1; simp only [hfl] at this; exact this
          have j7 : W5.cell? ⟨b, 7, none⟩ = some (.int .i64 s.came) := HJ5.out.rep.cells.2.2.2.2.2.2.1
          have HPt : Hid (RJ B b w (World.put5 W5 s.vb p ⟨x2, s.came⟩).drew s (fv s.came V (l.take (j + 1))) bx f t m k (.slice (some ⟨lg, 0, none⟩) l.length vc) l) := by
            have := (HJ5.out.put p ⟨x2, s.came⟩ (by omega)).same (Fr.refl _ _).drew
            rw [← hsu] at this
            exact this
          clear vz hfl hcc hb5 hx hsu hrj n9 HJ
          go_wp2
          clear hW5 hb9 d0 d1 d2 d3 d4
          refine wp_region_noPanic ?_
          go_region
          refine NoPanic.normal ?_
          go_wp2
          go_roundw
          case rel => exact ⟨j + 1, by omega, by go_num, HPt⟩
          case measure => simp [intOf]; omega
        · have hjj : j = l.length := by omega
          subst hjj
          have HE : Hid (RJ B b w W4 s (rvol s f l) bx f t m k (.slice va l.length vc) l) := by
            have := HJ.out
            rw [List.take_length] at this
            rw [HVe.out.2.2]
            exact this
          have x1 : W4.cell? ⟨bx, 1, none⟩ = some (.int .i64 t) := by rw [cell_of HE.out.box]; rfl
          have x2 : W4.cell? ⟨bx, 2, none⟩ = some (.int .i64 m) := by rw [cell_of HE.out.box]; rfl
          clear HJ hfl
          have HBX : Hid (∀ W, Fr (foot b s) W4 W → W.heap[bx]? = some (.cells #[.int .i64 f, .int .i64 t, .int .i64 m, .int .i64 k, .slice va l.length vc] 135 (0, 0))) := fun W hW => by
            have hn : bx ∉ foot b { s with vol := rvol s f l } := tag_foot HE.out.rep HE.out.box (by decide)
            rw [hW.block bx (Array.getElem?_eq_some_iff.1 HE.out.box).1 hn]
            exact HE.out.box
          go_wp2_with (first
            | (go_at_call 63; refine (HAd.out _ HE.out.rep).mono ?_; rintro e w5 ⟨rfl, sv, r5, f5, a5⟩
               have HR5 : Hid (Rep B w5 b 1 (Sto.add { s with vol := rvol s f l } t m sv) ∧ Fr (foot b s) w w5 ∧ (∀ k, sv.ownBlock = some k → s.sv.ownBlock = some k ∨ w.heap.size ≤ k) ∧ Fr (foot b s) W4 w5) := ⟨r5, HE.out.fr.trans f5 (fun k hk => Or.inl hk), fun k hk => (a5 k hk).imp_right (fun h => Nat.le_trans HE.out.fr.size h), f5⟩
               clear r5 f5 a5)
            | (go_at_call 21; refine (HNt.out _ sv HR5.out.1).mono ?_; rintro e w6 ⟨rfl, lv, r6, f6, a6⟩
               have HR6 : Hid (Rep B w6 b 1 ((Sto.add { s with vol := rvol s f l } t m sv).noted 84 tx lv) ∧ Fr (foot b s) w w6 ∧ (∀ k, lv.ownBlock = some k → s.lv.ownBlock = some k ∨ w.heap.size ≤ k)) := ⟨r6, HR5.out.2.1.trans f6 (fun k hk => add_foot (s := { s with vol := rvol s f l }) (n := s.taken) HR5.out.2.2.1 hk), fun k hk => (a6 k hk).imp_right (fun h => Nat.le_trans HR5.out.2.1.size h)⟩
               have x6 : w6.cell? ⟨bx, 1, none⟩ = some (.int .i64 t) := (by
                 have hh := HBX.out w5 HR5.out.2.2.2
                 have hn : bx ∉ foot b (Sto.add { s with vol := rvol s f l } t m sv) := tag_foot HR5.out.1 hh (by decide)
                 have h6 := (f6.block bx (Array.getElem?_eq_some_iff.1 hh).1 hn).trans hh
                 rw [cell_of h6]
                 rfl)
               clear r6 f6 a6))
          refine leaves_cons (f := 24) (args := #[.pointer (some ⟨b, 0, none⟩)]) (by simp) (by simp [go_sem]) ?_
          refine (unlock_deferred Tryz.muLib ⟨b, 0, none⟩ .returning _ HR6.out.1.cells.1 (HR6.out.1.frozen 0)).mono ?_
          rintro e u' w'' ⟨rfl, rfl, rfl⟩
          exact ⟨_, results_tmp2 rfl _ _ _, rfl, sv, lv, HR6.out.1.lock 0, HR6.out.2.1.setCell _ (Or.inl (by simp [foot])), HR5.out.2.2.1, HR6.out.2.2⟩
end Go.Proofs.YthdhegmlknpllaaGreat
