import Derived.Test.YthdhegmlknpllaaGreatM04
import Derived.Test.YthdhegmlknpllaaGreatM11
import Derived.Test.YthdhegmlknpllaaGreatM09
namespace Go.Proofs.YthdhegmlknpllaaGreat
open Go.RowKit Go.Maps Go.MuLone
theorem tag_foot {B : Nat} {w : World} {b : Nat} {q : Int} {s : Sto} {k : Nat} {cur : Array Value} {t : TypeId} {fr : Nat × Nat} (h : Rep B w b q s) (hk : w.heap[k]? = some (.cells cur t fr)) (ht : t ≠ 76 ∧ t ≠ 112 ∧ t ≠ 119 ∧ t ≠ 125 ∧ t ≠ 5) : k ∉ foot b s := by
 intro hm
 simp only [foot, List.mem_append, List.mem_cons, List.not_mem_nil, or_false, Option.mem_toList] at hm
 rcases hm with (((rfl | rfl | rfl) | h1) | h1) | h1
 · rw [h.blk] at hk
   simp [Sto.blk] at hk
   exact ht.1 hk.2.1.symm
 · rw [h.vol] at hk
   simp at hk
   exact ht.2.1 hk.2.1.symm
 · obtain ⟨es, c, h1⟩ := h.th.at
   rw [h1] at hk
   simp at hk
 · obtain ⟨_, cur', h2⟩ := own_tag h.ss h1
   rw [h2] at hk
   simp at hk
   exact ht.2.2.1 hk.2.1.symm
 · obtain ⟨_, cur', h2⟩ := own_tag h.ms h1
   rw [h2] at hk
   simp at hk
   exact ht.2.2.2.1 hk.2.1.symm
 · obtain ⟨_, cur', h2⟩ := own_tag h.lg h1
   rw [h2] at hk
   simp at hk
   exact ht.2.2.2.2 hk.2.1.symm
def World.put5 (w : World) (vb k : Nat) (x : Ct) : World :=
 ((((w.setCell ⟨vb, k * 5, none⟩ (.int .u8 (x.x.a.toNat : Int))).setCell ⟨vb, k * 5 + 1, none⟩ (.int .u8 (x.x.b.toNat : Int))).setCell ⟨vb, k * 5 + 2, none⟩ (.int .u8 (x.x.c.toNat : Int))).setCell ⟨vb, k * 5 + 3, none⟩ (.int .u8 (x.x.d.toNat : Int))).setCell ⟨vb, k * 5 + 4, none⟩ (.int .i64 x.n)
theorem put5_other (w : World) (vb k : Nat) (x : Ct) (j : Nat) (hj : j ≠ vb) : (World.put5 w vb k x).heap[j]? = w.heap[j]? := by
 unfold World.put5
 rw [heap_setCell_other _ _ _ _ hj, heap_setCell_other _ _ _ _ hj, heap_setCell_other _ _ _ _ hj, heap_setCell_other _ _ _ _ hj, heap_setCell_other _ _ _ _ hj]
theorem Rep.put5 {B : Nat} {w : World} {b : Nat} {q : Int} {s : Sto} (h : Rep B w b q s) (k : Nat) (x : Ct) (hk : k < s.vol.length) : Rep B (World.put5 w s.vb k x) b q { s with vol := s.vol.set k x } := by
 obtain ⟨a1, a2, a3, a4, a5, a6⟩ := h.apart
 have ho := put5_other w s.vb k x
 refine ⟨?_, ?_, ?_, ?_, ?_, ?_, h.hb, h.hvb, h.hmb⟩
 · rw [ho b (Ne.symm a1), h.blk]; simp [Sto.blk]
 · show (World.put5 w s.vb k x).heap[s.vb]? = some (.cells (volC (s.vol.set k x)).toArray 112 (0, 0))
   have h1 := heap_setCell_same w s.vb (k * 5) _ _ (.int .u8 (x.x.a.toNat : Int)) h.vol
   have h2 := heap_setCell_same _ s.vb (k * 5 + 1) _ _ (.int .u8 (x.x.b.toNat : Int)) h1
   have h3 := heap_setCell_same _ s.vb (k * 5 + 2) _ _ (.int .u8 (x.x.c.toNat : Int)) h2
   have h4 := heap_setCell_same _ s.vb (k * 5 + 3) _ _ (.int .u8 (x.x.d.toNat : Int)) h3
   have h5 := heap_setCell_same _ s.vb (k * 5 + 4) _ _ (.int .i64 x.n) h4
   unfold World.put5
   rw [h5, ← set5 s.vol k x.x x.n hk]
   simp [u8]
 · exact own_of_block h.ss (fun j hj => ho j (a4 j hj).2.1)
 · exact h.th.of_block (ho s.mb a3)
 · exact own_of_block h.ms (fun j hj => ho j (a5 j hj).2.1)
 · exact own_of_block h.lg (fun j hj => ho j (a6 j hj).2.1)
theorem put5_fr {F : List Nat} {w w1 : World} {vb k : Nat} {x : Ct} (h : Fr F w w1) (hv : vb ∈ F) : Fr F w (World.put5 w1 vb k x) :=
 ((((h.setCell _ (Or.inl hv)).setCell _ (Or.inl hv)).setCell _ (Or.inl hv)).setCell _ (Or.inl hv)).setCell _ (Or.inl hv)
def vk (s : Sto) (f : Int) (k : Nat) : List Ct := (List.range k).map (fun j : Nat => s.th f (j : Int)) ++ s.vol.drop k
theorem vk_zero (s : Sto) (f : Int) : vk s f 0 = s.vol := by simp [vk]
theorem vk_len (s : Sto) (f : Int) (k : Nat) (h : k ≤ s.vol.length) : (vk s f k).length = s.vol.length := by simp [vk]; omega
theorem vk_succ (s : Sto) (f : Int) (k : Nat) (h : k < s.vol.length) : (vk s f k).set k (s.th f (k : Int)) = vk s f (k + 1) := by
 unfold vk
 rw [List.set_append_right _ _ (by simp), List.drop_eq_getElem_cons h, List.length_map, List.length_range, Nat.sub_self, List.set_cons_zero, List.range_succ, List.map_append, List.append_assoc]
 rfl
def fv (c : Int) (v : List Ct) (l : List (Int × B4)) : List Ct := l.foldl (fun v o => v.set o.1.toNat ⟨o.2, c⟩) v
theorem fv_len (c : Int) : ∀ (l : List (Int × B4)) (v : List Ct), (fv c v l).length = v.length
 | [], _ => rfl
 | x :: r, v => by
  have := fv_len c r (v.set x.1.toNat ⟨x.2, c⟩)
  rw [List.length_set] at this
  exact this
theorem fv_succ (c : Int) (v : List Ct) (l : List (Int × B4)) (k : Nat) (h : k < l.length) : fv c v (l.take (k + 1)) = (fv c v (l.take k)).set l[k].1.toNat ⟨l[k].2, c⟩ := by
 unfold fv
 rw [List.take_succ_eq_append_getElem h, List.foldl_append]
 rfl
def rvol (s : Sto) (f : Int) (l : List (Int × B4)) : List Ct := fv s.came (vk s f s.vol.length) l
def Sto.recv (s : Sto) (f t m : Int) (l : List (Int × B4)) (tx : ByteArray) (sv lv : Value) : Sto := (Sto.add { s with vol := rvol s f l } t m sv).noted 84 tx lv
structure RJ (B b : Nat) (w wr : World) (s : Sto) (V : List Ct) (bx : Nat) (f t m : Int) (n : Nat) (v : Value) (l : List (Int × B4)) : Prop where
 rep : Rep B wr b 1 { s with vol := V }
 fr : Fr (foot b s) w wr
 box : wr.heap[bx]? = some (.cells #[.int .i64 f, .int .i64 t, .int .i64 m, .int .i64 n, v] 135 (0, 0))
 row : wr.ownsRow w.heap.size 137 5 v l.length (blC l)
theorem RJ.put {B b : Nat} {w wr : World} {s : Sto} {V : List Ct} {bx : Nat} {f t m : Int} {n : Nat} {v : Value} {l : List (Int × B4)} (h : RJ B b w wr s V bx f t m n v l) (k : Nat) (x : Ct) (hk : k < V.length) : RJ B b w (World.put5 wr s.vb k x) s (V.set k x) bx f t m n v l := by
 have h2 : wr.heap[s.vb]? = some (.cells (volC V).toArray 112 (0, 0)) := h.rep.vol
 have hx : bx ≠ s.vb := fun e => by
  have h1 := h.box
  rw [← e, h1] at h2
  simp at h2
 have hr := h.rep.put5 k x hk
 refine ⟨hr, put5_fr h.fr (by simp [foot]), ?_, own_of_block h.row (fun j hj => put5_other _ _ _ _ _ (fun e => ?_))⟩
 · rw [put5_other _ _ _ _ _ hx]
   exact h.box
 · obtain ⟨_, cur, h1⟩ := own_tag h.row hj
   rw [← e, h1] at h2
   simp at h2
theorem RJ.same {B b : Nat} {w wr w' : World} {s : Sto} {V : List Ct} {bx : Nat} {f t m : Int} {n : Nat} {v : Value} {l : List (Int × B4)} (h : RJ B b w wr s V bx f t m n v l) (hf : Fr [] wr w') : RJ B b w w' s V bx f t m n v l :=
 ⟨h.rep.kept0 hf, h.fr.trans hf (by simp), by rw [hf.block bx (Array.getElem?_eq_some_iff.1 h.box).1 (by simp)]; exact h.box, own_fr' h.row hf⟩
theorem RJ.vol {B b : Nat} {w wr : World} {s : Sto} {V : List Ct} {bx : Nat} {f t m : Int} {n : Nat} {v : Value} {l : List (Int × B4)} (h : RJ B b w wr s V bx f t m n v l) (k : Nat) (hk : k < V.length) : ∃ z : Ct, wr.cell? ⟨s.vb, k * 5, none⟩ = some (.int .u8 (z.x.a.toNat : Int)) ∧ wr.cell? ⟨s.vb, k * 5 + 1, none⟩ = some (.int .u8 (z.x.b.toNat : Int)) ∧ wr.cell? ⟨s.vb, k * 5 + 2, none⟩ = some (.int .u8 (z.x.c.toNat : Int)) ∧ wr.cell? ⟨s.vb, k * 5 + 3, none⟩ = some (.int .u8 (z.x.d.toNat : Int)) ∧ wr.cell? ⟨s.vb, k * 5 + 4, none⟩ = some (.int .i64 z.n) ∧ ∀ j, wr.frozen? ⟨s.vb, j, none⟩ = false := by
 have h2 : wr.heap[s.vb]? = some (.cells (volC V).toArray 112 (0, 0)) := h.rep.vol
 obtain ⟨g0, g1, g2, g3, g4⟩ := volC_get V k hk
 refine ⟨V[k], ?_, ?_, ?_, ?_, ?_, fun j => froz_of h2 j⟩
 · rw [cell_of h2, List.getElem?_toArray, g0]; rfl
 · rw [cell_of h2, List.getElem?_toArray, g1]; rfl
 · rw [cell_of h2, List.getElem?_toArray, g2]; rfl
 · rw [cell_of h2, List.getElem?_toArray, g3]; rfl
 · rw [cell_of h2, List.getElem?_toArray, g4]
set_option maxRecDepth 100000 in
set_option maxHeartbeats 6400000 in
theorem receive_ok (B b : Nat) (s : Sto) (tx : ByteArray) (w : World) (h : Rep B w b 0 s) (f t m : Int) (l : List (Int × B4))
  (hp : ∀ W, Calls Tryz.prog 79 #[.string tx] W fun e w' => ∃ v, e = .returned (.tuple #[.agg #[.int .i64 f, .int .i64 t, .int .i64 m, .int .i64 (s.vol.length : Int), v], .bool true]) ∧ w'.ownsRow W.heap.size 137 5 v l.length (blC l) ∧ Fr [] W w')
  (hs : s.ss.length < 12) (hms : s.ms.length ≤ 12) (hf1 : fi (fun y : Sn => y.guid == t) 0 s.ss = -1) (hf2 : fi (fun y : Int × Int => y.1 == t) 0 s.ms = -1) (hlast : f = lastG s.ss)
  (hr : ∀ k (h : k < l.length), 0 ≤ l[k].1 ∧ l[k].1 < s.vol.length) (hll : l.length ≤ 16) (hfv : In64 f) (htv : In64 t) (hc : 0 ≤ s.came ∧ s.came ≤ 1000000000000) (hv : s.vol.length ≤ 16) (hcnt : s.cnt + s.vol.length < maxLen) (hlog : s.log.length ≤ 140000000000000) (htx : tx.size ≤ 1000) :
  Calls Tryz.prog 52 #[.pointer (some ⟨b, 0, none⟩), .string tx] w fun e w' => e = .returned (.tuple #[.int .i64 t, .int .i64 0]) ∧ ∃ sv lv, Rep B w' b 0 (s.recv f t m l tx sv lv) ∧ Fr (foot b s) w w' ∧ (∀ k, sv.ownBlock = some k → s.sv.ownBlock = some k ∨ w.heap.size ≤ k) ∧ (∀ k, lv.ownBlock = some k → s.lv.ownBlock = some k ∨ w.heap.size ≤ k) := by
 obtain ⟨w1, hw1, R1⟩ := h.lk
 have HL := lock_free Tryz.muLib ⟨b, 0, none⟩ w h.cells.1 (h.frozen 0)
 have F1 := lkF s hw1
 have HF : Hid (w.setCell ⟨b, 0, none⟩ (.int .i32 1) = w1 ∧ Rep B w1 b 1 s ∧ Fr (foot b s) w w1) := ⟨hw1, R1, F1⟩
 obtain ⟨nv, hnv⟩ : ∃ nv, s.vol.length = nv := ⟨_, rfl⟩
 rw [hnv] at hp hr hv hcnt
 have HP : Hid (∀ W, Calls Tryz.prog 79 #[.string tx] W fun e w' => ∃ v, e = .returned (.tuple #[.agg #[.int .i64 f, .int .i64 t, .int .i64 m, .int .i64 (nv : Int), v], .bool true]) ∧ w'.ownsRow W.heap.size 137 5 v l.length (blC l) ∧ Fr [] W w') := hp
 have HAc : Hid (∀ W v, Rep B W b 1 s → (∃ a n c, v = .slice a n c) → Calls Tryz.prog 80 #[.pointer (some ⟨b, 0, none⟩), .agg #[.int .i64 f, .int .i64 t, .int .i64 m, .int .i64 (nv : Int), v]] W fun e w' => e = .returned (.int .i64 0) ∧ Fr [] W w') := fun W v hW hv => by
  have := accepts_ok B b 1 s f t m v W hW hs hms hv hf1 hf2 hlast
  rw [hnv] at this
  exact this
 have HFa : Hid (s.vol.length = nv ∧ In64 f ∧ In64 t ∧ (∀ k (h : k < l.length), 0 ≤ l[k].1 ∧ l[k].1 < nv) ∧ w.heap.size = w.heap.size) := ⟨hnv, hfv, htv, hr, rfl⟩
 have HAd : Hid (∀ W, Rep B W b 1 { s with vol := rvol s f l } → Calls Tryz.prog 63 #[.pointer (some ⟨b, 0, none⟩), .int .i64 t, .int .i64 m] W fun e w' => e = .returned (.tuple #[]) ∧ ∃ sv, Rep B w' b 1 (Sto.add { s with vol := rvol s f l } t m sv) ∧ Fr (foot b s) W w' ∧ (∀ k, sv.ownBlock = some k → s.sv.ownBlock = some k ∨ W.heap.size ≤ k)) := fun W hW => by
  have e : (rvol s f l).length = nv := by unfold rvol; rw [fv_len, vk_len _ _ _ (Nat.le_refl _), hnv]
  exact add_any B b 1 { s with vol := rvol s f l } t m W hW hs hc (by show (rvol s f l).length ≤ 16; omega) (by show s.cnt + (rvol s f l).length < maxLen; omega) htv
 have HNt : Hid (∀ W sv, Rep B W b 1 (Sto.add { s with vol := rvol s f l } t m sv) → Calls Tryz.prog 21 #[.pointer (some ⟨b, 0, none⟩), .int .u8 84, .string tx] W fun e w' => e = .returned (.tuple #[]) ∧ ∃ lv, Rep B w' b 1 ((Sto.add { s with vol := rvol s f l } t m sv).noted 84 tx lv) ∧ Fr (foot b (Sto.add { s with vol := rvol s f l } t m sv)) W w' ∧ (∀ k, lv.ownBlock = some k → s.lv.ownBlock = some k ∨ W.heap.size ≤ k)) := fun W sv hW => note_any B b 1 (Sto.add { s with vol := rvol s f l } t m sv) 84 tx W hW htx hlog
 unfold Sto.recv
 clear h R1 F1 hw1 hp hf1 hf2 hlast hr hfv htv hc hcnt hlog htx hs hms hnv
 go_enter_defers Tryz.func52, Tryz.ntmps52
 go_wp2_with (first
  | (go_at_call 23; refine HL.mono ?_; rintro e w' ⟨rfl, hw'⟩; rw [HF.out.1] at hw'; have hw' := hw'.symm; subst hw')
  | (go_at_call 79; refine (HP.out _).mono ?_; rintro e w2 ⟨v, rfl, o2, hfr⟩
     obtain ⟨va, vc, hva⟩ := own_shape o2
     subst hva
     have HR2 : Hid (RJ B b w (w2.alloc (.cells #[.int .i64 f, .int .i64 t, .int .i64 m, .int .i64 (nv : Int), .slice va l.length vc] 135)) s s.vol w2.heap.size f t m nv (.slice va l.length vc) l) := ⟨(HF.out.2.1.kept0 hfr).kept0 ((Fr.refl _ _).alloc _), (HF.out.2.2.trans hfr (by simp)).alloc _, heap_alloc_new w2 _, (by have o3 := o2.alloc (.cells #[.int .i64 f, .int .i64 t, .int .i64 m, .int .i64 (nv : Int), .slice va l.length vc] 135); refine ⟨o3.1, ?_⟩; rcases o3.2 with h0 | ⟨g, cap, cur, h1, h2, r⟩; exact .inl h0; exact .inr ⟨g, cap, cur, h1, Nat.le_trans HF.out.2.2.size h2, r⟩)⟩
     clear hfr o2)
  | (go_at_call 80; refine (HAc.out _ _ HR2.out.rep ⟨_, _, _, rfl⟩).mono ?_; rintro e w3 ⟨rfl, hfr⟩
     have HR3 : Hid (RJ B b w w3 s s.vol w2.heap.size f t m nv (.slice va l.length vc) l) := HR2.out.same hfr
     have c3 : w3.cell? ⟨b, 3, none⟩ = some (.slice (some ⟨s.vb, 0, none⟩) nv nv) := (by rw [← HFa.out.1]; exact HR3.out.rep.cells.2.2.1)
     clear hfr))
 obtain ⟨bx, hbx⟩ : ∃ bx, w2.heap.size = bx := ⟨_, rfl⟩
 rw [hbx] at HR3
 rw [hbx]
 clear HR2 hbx HL HP HAc
 go_loopw [37] (fun i wr => ∃ k : Nat, k ≤ nv ∧ i = .int .i64 k ∧ Hid (RJ B b w wr s (vk s f k) bx f t m nv (.slice va l.length vc) l)) (fun i _ => nv - (intOf i).toNat)
 case atStart => exact ⟨0, Nat.zero_le _, rfl, by rw [vk_zero]; exact HR3⟩
 case round =>
  obtain ⟨k, hk, rfl, HK⟩ := hrel
  obtain ⟨W3, hW3⟩ : ∃ W3, W3 = wr := ⟨_, rfl⟩
  subst hW3
  clear HR3 c3
  have hvl : (vk s f k).length = nv := by rw [vk_len _ _ _ (by rw [HFa.out.1]; exact hk), HFa.out.1]
  by_cases hlt : k < nv
  · have hltz : (k : Int) < (nv : Int) := by omega
    obtain ⟨z, v0, v1, v2, v3, v4, vz⟩ := HK.out.vol k (by omega)
    have z0 := vz (k * 5)
    have z1 := vz (k * 5 + 1)
    have z2 := vz (k * 5 + 2)
    have z3 := vz (k * 5 + 3)
    have z4 := vz (k * 5 + 4)
    have j3 : W3.cell? ⟨b, 3, none⟩ = some (.slice (some ⟨s.vb, 0, none⟩) nv nv) := by have := HK.out.rep.cells.2.2.1; simp only [hvl] at this; exact this
    have j5 : W3.cell? ⟨b, 5, none⟩ = some (.map (some s.mb)) := HK.out.rep.cells.2.2.2.2.1
    have x0 : W3.cell? ⟨bx, 0, none⟩ = some (.int .i64 f) := by rw [cell_of HK.out.box]; rfl
    have lk0 : (Instr.lookup 64 (.map (some s.mb)) (.agg #[.int .i64 f, .int .i64 k]) false).run Tryz.prog W3 = .ok (s.th f (k : Int)).val W3 := HK.out.rep.look HFa.out.2.1 (i := (k : Int)) ⟨by omega, by omega⟩
    have lk1 : (Instr.lookup 64 (.map (some s.mb)) (.agg #[.int .i64 f, .int .i64 k]) false).run Tryz.prog W3.drew = .ok (s.th f (k : Int)).val W3.drew := (HK.out.rep.kept0 (Fr.refl _ _).drew).look HFa.out.2.1 (i := (k : Int)) ⟨by omega, by omega⟩
    have HPt : Hid (RJ B b w (World.put5 W3 s.vb k (s.th f (k : Int))).drew s (vk s f (k + 1)) bx f t m nv (.slice va l.length vc) l) := by
     have := (HK.out.put k (s.th f (k : Int)) (by omega)).same (Fr.refl _ _).drew
     rw [vk_succ s f k (by rw [HFa.out.1]; exact hlt)] at this
     exact this
    obtain ⟨y, hy⟩ : ∃ y, s.th f (k : Int) = y := ⟨_, rfl⟩
    rw [hy] at lk0 lk1 HPt
    have lk : (Instr.lookup 64 (.map (some s.mb)) (.agg #[.int .i64 f, .int .i64 k]) false).run Tryz.prog W3 = .ok (.agg #[.int .u8 (y.x.a.toNat : Int), .int .u8 (y.x.b.toNat : Int), .int .u8 (y.x.c.toNat : Int), .int .u8 (y.x.d.toNat : Int), .int .i64 y.n]) W3 := lk0
    have lk2 : (Instr.lookup 64 (.map (some s.mb)) (.agg #[.int .i64 f, .int .i64 k]) false).run Tryz.prog W3.drew = .ok (.agg #[.int .u8 (y.x.a.toNat : Int), .int .u8 (y.x.b.toNat : Int), .int .u8 (y.x.c.toNat : Int), .int .u8 (y.x.d.toNat : Int), .int .i64 y.n]) W3.drew := lk1
    clear lk0 lk1 hy vz hvl
    go_wp2
    refine wp_region_noPanic ?_
    go_region
    refine NoPanic.normal ?_
    go_wp2
    go_roundw
    case rel => exact ⟨k + 1, by omega, by go_num, HPt⟩
    case measure => simp [intOf]; omega
  · have hkk : k = nv := by omega
    subst hkk
    have x4 : W3.cell? ⟨bx, 4, none⟩ = some (.slice va l.length vc) := by rw [cell_of HK.out.box]; rfl
    obtain ⟨V, hV⟩ : ∃ V, vk s f k = V := ⟨_, rfl⟩
    rw [hV] at hvl
    have HVe : Hid (vk s f k = V ∧ V.length = k ∧ rvol s f l = fv s.came V l) := ⟨hV, hvl, by unfold rvol; rw [HFa.out.1, hV]⟩
    rw [hV] at HK
    clear hV hvl
    go_wp2
    go_loopw [59] (fun i wr => ∃ j : Nat, j ≤ l.length ∧ i = .int .i64 j ∧ Hid (RJ B b w wr s (fv s.came V (l.take j)) bx f t m k (.slice va l.length vc) l)) (fun i _ => l.length - (intOf i).toNat)
    case atStart => exact ⟨0, Nat.zero_le _, rfl, by simpa [fv] using HK⟩
    case round =>
     obtain ⟨j, hj, rfl, HJ⟩ := hrel
     obtain ⟨W4, hW4⟩ : ∃ W4, W4 = wr := ⟨_, rfl⟩
     subst hW4
     clear HK x4
     have hfl : (fv s.came V (l.take j)).length = k := by rw [fv_len]; exact HVe.out.2.1
     by_cases hlt2 : j < l.length
     · have hltz : (j : Int) < (l.length : Int) := by omega
       obtain ⟨lg, hlg, hc9, hcc⟩ := own_addr' HJ.out.row (by omega)
       subst hlg
       have hb5 := blC_get l j hlt2
       have hrj := HFa.out.2.2.2.1 j hlt2
       have hsu := fv_succ s.came V l j hlt2
       obtain ⟨x, hx⟩ : ∃ x, l[j] = x := ⟨_, rfl⟩
       rw [hx] at hb5 hrj hsu
       obtain ⟨x1, x2⟩ := x
       simp only at hb5 hrj hsu
       obtain ⟨p, hp⟩ : ∃ p : Nat, x1 = (p : Int) := ⟨x1.toNat, by omega⟩
       subst hp
       have hpk : p < k := by omega
       have hpz : (p : Int) < (k : Int) := by omega
       have hp0 : (0 : Int) ≤ (p : Int) := by omega
       rw [Int.toNat_natCast] at hsu
       have d0 : W4.cell? ⟨lg, j * 5, none⟩ = some (.int .i64 (p : Int)) := by rw [hcc _ (by omega)]; exact hb5.1
       have d1 : W4.cell? ⟨lg, j * 5 + 1, none⟩ = some (.int .u8 (x2.a.toNat : Int)) := by rw [hcc _ (by omega)]; exact hb5.2.1
       have d2 : W4.cell? ⟨lg, j * 5 + 2, none⟩ = some (.int .u8 (x2.b.toNat : Int)) := by rw [hcc _ (by omega)]; exact hb5.2.2.1
       have d3 : W4.cell? ⟨lg, j * 5 + 3, none⟩ = some (.int .u8 (x2.c.toNat : Int)) := by rw [hcc _ (by omega)]; exact hb5.2.2.2.1
       have d4 : W4.cell? ⟨lg, j * 5 + 4, none⟩ = some (.int .u8 (x2.d.toNat : Int)) := by rw [hcc _ (by omega)]; exact hb5.2.2.2.2
       obtain ⟨W5, hW5⟩ : ∃ W5, W4.alloc (.cells #[.int .i64 (p : Int), .int .u8 (x2.a.toNat : Int), .int .u8 (x2.b.toNat : Int), .int .u8 (x2.c.toNat : Int), .int .u8 (x2.d.toNat : Int)] 137) = W5 := ⟨_, rfl⟩
       obtain ⟨b9, hb9⟩ : ∃ b9, W4.heap.size = b9 := ⟨_, rfl⟩
       have n9 : W5.heap[b9]? = some (.cells #[.int .i64 (p : Int), .int .u8 (x2.a.toNat : Int), .int .u8 (x2.b.toNat : Int), .int .u8 (x2.c.toNat : Int), .int .u8 (x2.d.toNat : Int)] 137 (0, 0)) := by rw [← hW5, ← hb9]; exact heap_alloc_new W4 _
       have HJ5 : Hid (RJ B b w W5 s (fv s.came V (l.take j)) bx f t m k (.slice (some ⟨lg, 0, none⟩) l.length vc) l) := by rw [← hW5]; exact HJ.out.same ((Fr.refl _ _).alloc _)
       obtain ⟨z, v0, v1, v2, v3, v4, vz⟩ := HJ5.out.vol p (by omega)
       have z0 := vz (p * 5)
       have z1 := vz (p * 5 + 1)
       have z2 := vz (p * 5 + 2)
       have z3 := vz (p * 5 + 3)
       have z4 := vz (p * 5 + 4)
       have g0 : W5.cell? ⟨b9, 0, none⟩ = some (.int .i64 (p : Int)) := by rw [cell_of n9]; rfl
       have g1 : W5.cell? ⟨b9, 1, none⟩ = some (.int .u8 (x2.a.toNat : Int)) := by rw [cell_of n9]; rfl
       have g2 : W5.cell? ⟨b9, 2, none⟩ = some (.int .u8 (x2.b.toNat : Int)) := by rw [cell_of n9]; rfl
       have g3 : W5.cell? ⟨b9, 3, none⟩ = some (.int .u8 (x2.c.toNat : Int)) := by rw [cell_of n9]; rfl
       have g4 : W5.cell? ⟨b9, 4, none⟩ = some (.int .u8 (x2.d.toNat : Int)) := by rw [cell_of n9]; rfl
       have j3 : W5.cell? ⟨b, 3, none⟩ = some (.slice (some ⟨s.vb, 0, none⟩) k k) := by have := HJ5.out.rep.cells.2.2.1; simp only [hfl] at this; exact this
       have j7 : W5.cell? ⟨b, 7, none⟩ = some (.int .i64 s.came) := HJ5.out.rep.cells.2.2.2.2.2.2.1
       have HPt : Hid (RJ B b w (World.put5 W5 s.vb p ⟨x2, s.came⟩).drew s (fv s.came V (l.take (j + 1))) bx f t m k (.slice (some ⟨lg, 0, none⟩) l.length vc) l) := by
        have := (HJ5.out.put p ⟨x2, s.came⟩ (by omega)).same (Fr.refl _ _).drew
        rw [← hsu] at this
        exact this
       clear vz hfl hcc hb5 hx hsu hrj n9 HJ
       go_wp2
       clear hW5 hb9 d0 d1 d2 d3 d4
       refine wp_region_noPanic ?_
       go_region
       refine NoPanic.normal ?_
       go_wp2
       go_roundw
       case rel => exact ⟨j + 1, by omega, by go_num, HPt⟩
       case measure => simp [intOf]; omega
     · have hjj : j = l.length := by omega
       subst hjj
       have HE : Hid (RJ B b w W4 s (rvol s f l) bx f t m k (.slice va l.length vc) l) := by
        have := HJ.out
        rw [List.take_length] at this
        rw [HVe.out.2.2]
        exact this
       have x1 : W4.cell? ⟨bx, 1, none⟩ = some (.int .i64 t) := by rw [cell_of HE.out.box]; rfl
       have x2 : W4.cell? ⟨bx, 2, none⟩ = some (.int .i64 m) := by rw [cell_of HE.out.box]; rfl
       clear HJ hfl
       have HBX : Hid (∀ W, Fr (foot b s) W4 W → W.heap[bx]? = some (.cells #[.int .i64 f, .int .i64 t, .int .i64 m, .int .i64 k, .slice va l.length vc] 135 (0, 0))) := fun W hW => by
        have hn : bx ∉ foot b { s with vol := rvol s f l } := tag_foot HE.out.rep HE.out.box (by decide)
        rw [hW.block bx (Array.getElem?_eq_some_iff.1 HE.out.box).1 hn]
        exact HE.out.box
       go_wp2_with (first
        | (go_at_call 63; refine (HAd.out _ HE.out.rep).mono ?_; rintro e w5 ⟨rfl, sv, r5, f5, a5⟩
           have HR5 : Hid (Rep B w5 b 1 (Sto.add { s with vol := rvol s f l } t m sv) ∧ Fr (foot b s) w w5 ∧ (∀ k, sv.ownBlock = some k → s.sv.ownBlock = some k ∨ w.heap.size ≤ k) ∧ Fr (foot b s) W4 w5) := ⟨r5, HE.out.fr.trans f5 (fun k hk => Or.inl hk), fun k hk => (a5 k hk).imp_right (fun h => Nat.le_trans HE.out.fr.size h), f5⟩
           clear r5 f5 a5)
        | (go_at_call 21; refine (HNt.out _ sv HR5.out.1).mono ?_; rintro e w6 ⟨rfl, lv, r6, f6, a6⟩
           have HR6 : Hid (Rep B w6 b 1 ((Sto.add { s with vol := rvol s f l } t m sv).noted 84 tx lv) ∧ Fr (foot b s) w w6 ∧ (∀ k, lv.ownBlock = some k → s.lv.ownBlock = some k ∨ w.heap.size ≤ k)) := ⟨r6, HR5.out.2.1.trans f6 (fun k hk => add_foot (s := { s with vol := rvol s f l }) (n := s.taken) HR5.out.2.2.1 hk), fun k hk => (a6 k hk).imp_right (fun h => Nat.le_trans HR5.out.2.1.size h)⟩
           have x6 : w6.cell? ⟨bx, 1, none⟩ = some (.int .i64 t) := (by
            have hh := HBX.out w5 HR5.out.2.2.2
            have hn : bx ∉ foot b (Sto.add { s with vol := rvol s f l } t m sv) := tag_foot HR5.out.1 hh (by decide)
            have h6 := (f6.block bx (Array.getElem?_eq_some_iff.1 hh).1 hn).trans hh
            rw [cell_of h6]
            rfl)
           clear r6 f6 a6))
       refine leaves_cons (f := 24) (args := #[.pointer (some ⟨b, 0, none⟩)]) (by simp) (by simp [go_sem]) ?_
       refine (unlock_deferred Tryz.muLib ⟨b, 0, none⟩ .returning _ HR6.out.1.cells.1 (HR6.out.1.frozen 0)).mono ?_
       rintro e u' w'' ⟨rfl, rfl, rfl⟩
       exact ⟨_, results_tmp2 rfl _ _ _, rfl, sv, lv, HR6.out.1.lock 0, HR6.out.2.1.setCell _ (Or.inl (by simp [foot])), HR5.out.2.2.1, HR6.out.2.2⟩
end Go.Proofs.YthdhegmlknpllaaGreat
