import Derived.Test.YthdhegmlknpllaaGreatM01
import Derived.Lib.AppendStr
import Derived.Deep.AppendLies
namespace Go.Proofs.YthdhegmlknpllaaGreat
open Go.RowKit Go.Maps Go.MuLone
theorem info_parts {t : TypeId} {z : Value} {a b : Nat} (h : (Tryz.prog.info? t).map (fun i => (i.zero, i.size, i.bytes)) = some (some z, a, b)) : ∃ i, Tryz.prog.info? t = some i ∧ i.zero = some z ∧ i.size = a ∧ i.bytes = b := by
 cases hi : Tryz.prog.info? t with
 | none => rw [hi] at h; simp at h
 | some i => rw [hi] at h; simp at h; exact ⟨i, rfl, h.1, h.2.1, h.2.2⟩
theorem str_conv {w : World} {vb o : Nat} {x : B4} (h0 : w.cell? ⟨vb, o, none⟩ = some (u8 x.a)) (h1 : w.cell? ⟨vb, o + 1, none⟩ = some (u8 x.b)) (h2 : w.cell? ⟨vb, o + 2, none⟩ = some (u8 x.c)) (h3 : w.cell? ⟨vb, o + 3, none⟩ = some (u8 x.d)) :
  (convert 74 9 (.slice (some ⟨vb, o, none⟩) 4 4)).run Tryz.prog w = .ok x.str w := by
 have := run_convert_bytes_back (P := Tryz.prog) w 74 9 5 ⟨vb, o, none⟩ 4 x.list Tryz.underlying74 Tryz.underlying5 Tryz.underlying9 (by
  intro j hj
  have hj' : j < 4 := hj
  rcases (by omega : j = 0 ∨ j = 1 ∨ j = 2 ∨ j = 3) with rfl | rfl | rfl | rfl
  · exact h0
  · exact h1
  · exact h2
  · exact h3)
 exact this
def byt (z : Int) : UInt8 := UInt8.ofNat (z % 256).toNat
theorem byt_eq (z : Int) : z % 256 = ((byt z).toNat : Int) := by
 unfold byt
 rw [UInt8.toNat_ofNat']
 omega
def n4 (z : Int) : B4 := ⟨byt (z / 16777216), byt (z / 65536), byt (z / 256), byt z⟩
def B4.ba (x : B4) : ByteArray := ⟨#[x.a, x.b, x.c, x.d]⟩
set_option maxRecDepth 100000 in
set_option maxHeartbeats 800000 in
theorem number_any (z : Int) (w : World) :
  Calls Tryz.prog 22 #[.int .i64 z] w fun e w' => e = .returned (.string (n4 z).ba) ∧ Fr [] w w' := by
 have e1 := byt_eq (z / 16777216)
 have e2 := byt_eq (z / 65536)
 have e3 := byt_eq (z / 256)
 have e4 := byt_eq z
 have hcv : (convert 74 9 (.slice (some ⟨w.heap.size, 0, none⟩) 4 4)).run Tryz.prog (w.alloc (.cells #[.int .u8 (z / 16777216 % 256), .int .u8 (z / 65536 % 256), .int .u8 (z / 256 % 256), .int .u8 (z % 256)] 5)) = .ok (.string (n4 z).ba) (w.alloc (.cells #[.int .u8 (z / 16777216 % 256), .int .u8 (z / 65536 % 256), .int .u8 (z / 256 % 256), .int .u8 (z % 256)] 5)) := by
  rw [e1, e2, e3, e4]
  exact str_conv (x := n4 z) (by simp [u8, n4]) (by simp [u8, n4]) (by simp [u8, n4]) (by simp [u8, n4])
 clear e1 e2 e3 e4
 go_enter Tryz.func22, Tryz.ntmps22
 go_wp2
 go_ret
 exact ⟨rfl, (Fr.refl _ _).alloc _⟩
def entry (c : UInt8) (t : ByteArray) : List UInt8 := UInt8.ofNat (1 + t.size) :: c :: t.data.toList
def Sto.noted (s : Sto) (c : UInt8) (t : ByteArray) (lv : Value) : Sto := { s with log := s.log ++ entry c t, lv := lv }
theorem Rep.setLog {B : Nat} {w w' : World} {b : Nat} {q : Int} {s : Sto} (h : Rep B w b q s) {l : List UInt8} {lv : Value} (ho : w'.ownsRow B 5 1 lv l.length (logC l)) (hg : w.grownBy w' s.lv.ownBlock) :
  Rep B (w'.setCell ⟨b, 9, none⟩ lv) b q { s with log := l, lv := lv } := by
 obtain ⟨a1, a2, a3, a4, a5, a6⟩ := h.apart
 have hb : w'.heap[b]? = some (s.blk q) := by rw [hg.block b (h.lt b (by simp [foot])).2 (fun e => (a6 b e.symm).1 rfl)]; exact h.blk
 have hsb : ∀ k, lv.ownBlock = some k → k ≠ b := fun k hk e => by
  obtain ⟨_, cur, h4⟩ := own_tag ho hk
  rw [e, hb] at h4
  simp [Sto.blk] at h4
 refine ⟨?_, ?_, ?_, ?_, ?_, ?_, h.hb, h.hvb, h.hmb⟩
 · rw [heap_setCell_same w' b 9 _ _ _ hb]; rfl
 · rw [heap_setCell_other _ _ _ _ (by exact a1), hg.block s.vb (h.lt s.vb (by simp [foot])).2 (fun e => (a6 s.vb e.symm).2.1 rfl)]; exact h.vol
 · refine own_of_block h.ss (fun k hk => ?_)
   rw [heap_setCell_other _ _ _ _ (a4 k hk).1, hg.block k (h.ss.lt k hk).2 (fun e => (a6 k e.symm).2.2.2.1 hk)]
 · refine h.th.of_block ?_
   rw [heap_setCell_other _ _ _ _ (by exact a2), hg.block s.mb (h.lt s.mb (by simp [foot])).2 (fun e => (a6 s.mb e.symm).2.2.1 rfl)]
 · refine own_of_block h.ms (fun k hk => ?_)
   rw [heap_setCell_other _ _ _ _ (a5 k hk).1, hg.block k (h.ms.lt k hk).2 (fun e => (a6 k e.symm).2.2.2.2 hk)]
 · exact own_of_block (w := w') ho (fun k hk => heap_setCell_other _ _ _ _ (hsb k hk))
theorem own_shape {w : World} {base : Nat} {e : TypeId} {size : Nat} {v : Value} {n : Nat} {xs : List Value} (h : w.ownsRow base e size v n xs) : ∃ a c, v = .slice a n c := by
 rcases h.2 with ⟨rfl, rfl⟩ | ⟨g, c, cur, rfl, _⟩
 · exact ⟨none, 0, rfl⟩
 · exact ⟨_, _, rfl⟩
theorem info5 : (Tryz.prog.info? 5).map (fun i => (i.zero, i.size, i.bytes)) = some (some (.int .u8 0), 1, 1) := by kernel_rfl
theorem news2 (w : World) (x y : Value) : ∀ j u, [x, y][j]? = some u → (w.alloc (.cells #[x, y] 5)).cell? ((⟨w.heap.size, 0, none⟩ : Addr).add j) = some u :=
 World.news_of_block (cs := #[x, y]) (t := 5) (fr := (0, 0)) (heap_alloc_new w _)
theorem run_append_text {w : World} (base : Nat) (ty : TypeId) (g cap n : Nat) (xs : List Value) (hown : w.ownsRow base 5 1 (.slice (some ⟨g, 0, none⟩) n cap) n xs) (t : ByteArray) (hb : n + t.size ≤ 140737488355328) (hbase : base ≤ w.heap.size) :
  ∃ g' cap' w', (Builtin.append_ #[74, 9] ty #[.slice (some ⟨g, 0, none⟩) n cap, .string t]).run Tryz.prog w = .ok (.slice (some ⟨g', 0, none⟩) (n + t.size) cap') w' ∧ w'.ownsRow base 5 1 (.slice (some ⟨g', 0, none⟩) (n + t.size) cap') (n + t.size) (xs ++ logC t.data.toList) ∧ w.grownBy w' (some g) ∧ (g' = g ∨ g' = w.heap.size) := by
 obtain ⟨i0, hi, hz0, hz1, hz2⟩ := info_parts info5
 obtain ⟨v', w', hr, ho, hg, _⟩ := Go.Lib.run_append_own_string (P := Tryz.prog) w base 74 9 ty 5 i0 Tryz.underlying74 Tryz.underlying9 hi hz0 hz1 hz2 _ n xs hown t (by unfold maxLen; omega) hb hbase
 rcases hown.2 with ⟨h1, _⟩ | ⟨g2, cap2, cur, h1, hbg, hgg, hnc, hcm, hcs, htake⟩
 · simp at h1
 · simp at h1
   obtain ⟨rfl, rfl⟩ := h1
   have hcs' : cur.size = cap := by simpa using hcs
   by_cases hroom : n + t.size ≤ cap
   · have hr2 := Go.Lib.run_append_room_string (P := Tryz.prog) w 74 9 ty 5 i0 Tryz.underlying74 Tryz.underlying9 hi hz1 g n cap cur hgg t hroom (by omega)
     rw [hr] at hr2
     simp only [Result.ok.injEq] at hr2
     obtain ⟨rfl, _⟩ := hr2
     exact ⟨_, _, _, hr, ho, hg, Or.inl rfl⟩
   · have holds : ∀ j u, xs[j]? = some u → w.cell? ((⟨g, 0, none⟩ : Addr).add j) = some u := hown.cells (g := g) rfl
     have hr2 := Go.Lib.run_append_grow_string (P := Tryz.prog) w 74 9 ty 5 i0 (.int .u8 0) Tryz.underlying74 Tryz.underlying9 hi hz0 ⟨g, 0, none⟩ n cap xs (by rw [hz1]; exact hown.1) holds t (by omega) (by omega) (by rw [hz2]; exact growslice_fits (by omega) (by omega))
     rw [hr] at hr2
     simp only [Result.ok.injEq] at hr2
     obtain ⟨rfl, _⟩ := hr2
     exact ⟨_, _, _, hr, ho, hg, Or.inr rfl⟩
theorem wpList_append_text {ops : Array Oper} {rest : List Oper} {o : Oper} {a : Act} {Q : Exit → Act → World → Prop} (w : World) (hgd : o.guard = none) (sl x : Operand)
  (ho : o.op = .call { callee := .builtin .append, args := #[sl, x], argTypes := #[74, 9] })
  (base g cap n : Nat) (xs : List Value) (hs : a.eval sl = .slice (some ⟨g, 0, none⟩) n cap) (hown : w.ownsRow base 5 1 (.slice (some ⟨g, 0, none⟩) n cap) n xs) (t : ByteArray) (hx : a.eval x = .string t)
  (hb : n + t.size ≤ 140737488355328) (hbase : base ≤ w.heap.size)
  (h : ∀ g' cap' w', w'.ownsRow base 5 1 (.slice (some ⟨g', 0, none⟩) (n + t.size) cap') (n + t.size) (xs ++ logC t.data.toList) → w.grownBy w' (some g) → (g' = g ∨ g' = w.heap.size) → wpList Tryz.prog ops Q rest (a.put o.dst (.slice (some ⟨g', 0, none⟩) (n + t.size) cap')) w') : wpList Tryz.prog ops Q (o :: rest) a w := by
 refine wpList_plain hgd fun K hK => ?_
 obtain ⟨g', cap', w', hr, h2, h3, h4⟩ := run_append_text base o.type g cap n xs hown t hb hbase
 unfold Oper.wp execOp
 simp only [ho, resolve, invoke, builtin, Sem.run_bind, Sem.run_pure, Result.andThen_ok, List.map_toArray, List.map_cons, List.map_nil, hs, hx, hr]
 exact hK _ _ (h g' cap' w' h2 h3 h4)
theorem note_mid {B b : Nat} {q : Int} {s : Sto} {w w5 : World} {l : List UInt8} {lv : Value} {o : Obj} (h : Rep B w b q s) (ho : w5.ownsRow B 5 1 lv (s.log.length + l.length) (logC s.log ++ logC l)) (hg : (w.alloc o).grownBy w5 s.lv.ownBlock) :
  Rep B (w5.setCell ⟨b, 9, none⟩ lv) b q { s with log := s.log ++ l, lv := lv } ∧ Fr (foot b s) w (w5.setCell ⟨b, 9, none⟩ lv) ∧ (w5.setCell ⟨b, 9, none⟩ lv).ownsRow B 5 1 lv (s.log.length + l.length) (logC (s.log ++ l)) ∧ (∀ k, lv.ownBlock = some k → k ≠ b) := by
 have R1 := h.kept0 ((Fr.refl [] w).alloc o)
 have R2 := R1.setLog (l := s.log ++ l) (by rw [List.length_append]; simpa [logC] using ho) hg
 have L2 := R2.lg
 rw [List.length_append] at L2
 refine ⟨R2, ?_, L2, fun k hk => (R2.apart.2.2.2.2.2 k hk).1⟩
 refine Fr.setCell ?_ _ (Or.inl (by simp [foot]))
 exact ((Fr.refl _ w).alloc o).grown hg (fun k hk => Or.inl (by simp [foot, hk]))
set_option maxRecDepth 100000 in
set_option maxHeartbeats 1600000 in
theorem note_any (B b : Nat) (q : Int) (s : Sto) (c : UInt8) (t : ByteArray) (w : World) (h : Rep B w b q s) (ht : t.size ≤ 1000) (hl : s.log.length ≤ 140000000000000) :
  Calls Tryz.prog 21 #[.pointer (some ⟨b, 0, none⟩), .int .u8 (c.toNat : Int), .string t] w fun e w' => e = .returned (.tuple #[]) ∧ ∃ lv, Rep B w' b q (s.noted c t lv) ∧ Fr (foot b s) w w' ∧ (∀ k, lv.ownBlock = some k → s.lv.ownBlock = some k ∨ w.heap.size ≤ k) := by
 obtain ⟨i0, hi, hz0, hz1, hz2⟩ := info_parts info5
 obtain ⟨c0, c2, c3, c4, c5, c6, c7, c8, c9⟩ := h.cells
 have f9 := h.frozen 9
 have lb : b < w.heap.size := World.block_lt_of_cell? _ _ c0
 have hBw : B ≤ w.heap.size := by have := h.hb; omega
 obtain ⟨ao, cap, hlv⟩ := own_shape h.lg
 have HO : Hid (w.ownsRow B 5 1 s.lv s.log.length (logC s.log)) := h.lg
 have hne : s.lv.ownBlock ≠ some b := fun e => (h.apart.2.2.2.2.2 b e).1 rfl
 have HR : Hid (Rep B w b q s) := h
 rw [hlv] at HO hne c9
 obtain ⟨m, hm⟩ : ∃ m, t.size = m := ⟨_, rfl⟩
 have e1 : (1 + (m : Int)) % 256 = ((UInt8.ofNat (1 + m)).toNat : Int) := by rw [UInt8.toNat_ofNat']; omega
 obtain ⟨n, hn⟩ : ∃ n, s.log.length = n := ⟨_, rfl⟩
 rw [hn] at c9 HO hl hne hlv
 clear h c3 c4 c6
 obtain ⟨y, hy⟩ : ∃ y, UInt8.ofNat (1 + m) = y := ⟨_, rfl⟩
 rw [hy] at e1
 have HE : Hid (UInt8.ofNat (1 + m) = y ∧ t.size = m ∧ s.log.length = n) := ⟨hy, hm, hn⟩
 clear hy hn
 go_enter Tryz.func21, Tryz.ntmps21
 have HNW := news2 w (.int .u8 (y.toNat : Int)) (.int .u8 (c.toNat : Int))
 go_wp2_with (first
  | (at_builtin; refine wpList_append_lies _ rfl _ _ 74 rfl B 5 i0 _ 1 1 Tryz.underlying74 hi hz0 hz1 hz2 rfl (by omega) (.slice ao n cap) n (logC s.log) rfl (HO.out.alloc _) ⟨w.heap.size, 0, none⟩ 2 2 [.int .u8 (y.toNat : Int), .int .u8 (c.toNat : Int)] rfl rfl HNW (by simp [Value.oneCell']) (by omega) (by unfold maxLen; omega) (by omega) (by simp; omega) (w.heap.size + 1) (by simp) ?_; intro g5 cap5 w5 hown5 hgrow5 hat5 hlt5; have c95 : w5.cell? ⟨b, 9, none⟩ = some (.slice ao n cap) := (hgrow5.cell_far ⟨b, 9, none⟩ (by simp; omega) (Ne.symm hne)).trans ((World.cell?_of_block (Below.heap_alloc w _ b lb)).trans c9); have f5 : w5.frozen? ⟨b, 9, none⟩ = false := (hgrow5.frozen_far ⟨b, 9, none⟩ (by simp; omega) (Ne.symm hne)).trans ((World.frozen?_of_block (Below.heap_alloc w _ b lb)).trans f9); have HM := note_mid (l := [y, c]) HR.out (by rw [HE.out.2.2]; exact hown5) (by rw [hlv]; exact hgrow5); have c96 := HM.1.cells.2.2.2.2.2.2.2.2; have f96 := HM.1.frozen 9; obtain ⟨w6, hw6⟩ : ∃ w6, w5.setCell ⟨b, 9, none⟩ (.slice (some ⟨g5, 0, none⟩) (n + 2) cap5) = w6 := ⟨_, rfl⟩; rw [hw6] at HM c96 f96; have HM' : Hid (Rep B w6 b q { s with log := s.log ++ [y, c], lv := .slice (some ⟨g5, 0, none⟩) (n + 2) cap5 } ∧ Fr (foot b s) w w6 ∧ (s.lv.ownBlock = some g5 ∨ w.heap.size ≤ g5) ∧ w6.ownsRow B 5 1 (.slice (some ⟨g5, 0, none⟩) (n + 2) cap5) (n + 2) (logC (s.log ++ [y, c])) ∧ g5 ≠ b ∧ B ≤ w6.heap.size) := ⟨HM.1, HM.2.1, by rw [hlv]; exact hat5.imp_right (fun h => by omega), by have := HM.2.2.1; rw [HE.out.2.2] at this; exact this, HM.2.2.2 g5 rfl, Nat.le_trans hBw HM.2.1.size⟩; clear HM hown5 hgrow5 hat5 hlt5 HO HNW)
  | (at_builtin; refine wpList_append_text _ rfl _ _ rfl B g5 cap5 (n + 2) (logC (s.log ++ [y, c])) rfl HM'.out.2.2.2.1 t rfl (by omega) HM'.out.2.2.2.2.2 ?_; intro g7 cap7 w7 hown7 hgrow7 hat7; have hlt6 : b < w6.heap.size := World.block_lt_of_cell? _ _ c96; have hne7 : g5 ≠ b := HM'.out.2.2.2.2.1; have f7 : w7.frozen? ⟨b, 9, none⟩ = false := (hgrow7.frozen_far ⟨b, 9, none⟩ (by simpa using hlt6) (by simpa using Ne.symm hne7)).trans f96; have c97 : w7.cell? ⟨b, 9, none⟩ = some (.slice (some ⟨g5, 0, none⟩) (n + 2) cap5) := (hgrow7.cell_far ⟨b, 9, none⟩ (by simpa using hlt6) (by simpa using Ne.symm hne7)).trans c96; clear hw6))
 subst hm
 go_end0
 refine ⟨rfl, .slice (some ⟨g7, 0, none⟩) (n + 2 + t.size) cap7, ?_, ?_, ?_⟩
 · have := HM'.out.1.setLog (l := s.log ++ [y, c] ++ t.data.toList) (lv := .slice (some ⟨g7, 0, none⟩) (n + 2 + t.size) cap7) (w' := w7) (by
     have e : (s.log ++ [y, c] ++ t.data.toList).length = n + 2 + t.size := by rw [← HE.out.2.2]; simp; omega
     rw [e]
     simpa [logC] using hown7) hgrow7
   have e2 : s.noted c t (.slice (some ⟨g7, 0, none⟩) (n + 2 + t.size) cap7) = { s with log := s.log ++ [y, c] ++ t.data.toList, lv := .slice (some ⟨g7, 0, none⟩) (n + 2 + t.size) cap7 } := by
    unfold Sto.noted entry
    rw [HE.out.2.1, HE.out.1]
    simp
   rw [e2]
   exact this
 · refine Fr.setCell ?_ _ (Or.inl (by simp [foot]))
   refine HM'.out.2.1.grown hgrow7 (fun k hk => ?_)
   have hk' : g5 = k := by simpa using hk
   subst hk'
   exact HM'.out.2.2.1.imp_left (fun h => by simp [foot, h])
 · intro k hk
   have hk' : g7 = k := by simpa [Value.ownBlock] using hk
   subst hk'
   have hs6 := HM'.out.2.1.size
   rcases hat7 with e | e
   · rw [e, ← hlv]; exact HM'.out.2.2.1
   · right; omega
def valN (l : List UInt8) : Nat := l.foldl (fun v x => v * 256 + x.toNat) 0
theorem valN_succ (l : List UInt8) (k : Nat) (h : k < l.length) : valN (l.take (k + 1)) = valN (l.take k) * 256 + l[k].toNat := by
 unfold valN
 rw [List.take_succ_eq_append_getElem h, List.foldl_append, List.foldl_cons, List.foldl_nil]
theorem valN_lt (l : List UInt8) : ∀ k, k ≤ l.length → valN (l.take k) < 256 ^ k
 | 0, _ => by simp [valN]
 | k + 1, h => by
  have ih := valN_lt l k (by omega)
  have hx : (l[k]'(by omega)).toNat < 256 := UInt8.toNat_lt _
  rw [valN_succ l k (by omega), Nat.pow_succ]
  omega
set_option maxRecDepth 100000 in
theorem ofInt64 (z : Nat) (h : z < 4294967296) : (BitVec.ofInt 64 (z : Int)).toNat = z := by
 rw [BitVec.ofInt_natCast, BitVec.toNat_ofNat]
 exact Nat.mod_eq_of_lt (Nat.lt_of_lt_of_le h (by decide))
theorem wrap64_nat (z : Nat) (h : z < 4294967296) : IntKind.i64.wrap (z : Int) = (z : Int) := by
 simp [IntKind.wrap, IntKind.bits, IntKind.signed]
 omega
set_option maxRecDepth 100000 in
theorem or_bits (v x : Nat) (hv : v < 16777216) (hx : x < 256) : bits .or .i64 ((v : Int) * 256) (x : Int) = ((v * 256 + x : Nat) : Int) := by
 have hl : v * 256 < 4294967296 := by omega
 have hlt : v * 256 + x < 4294967296 := by omega
 have e2 : (v : Int) * 256 = ((v * 256 : Nat) : Int) := by omega
 have e : v * 256 ||| x = v * 256 + x := by
  have := Nat.shiftLeft_add_eq_or_of_lt (b := x) (i := 8) (by omega) v
  rw [Nat.shiftLeft_eq] at this
  exact this.symm
 rw [e2]
 generalize v * 256 = z at hl hlt e
 show IntKind.i64.wrap ((BitVec.ofInt 64 (z : Int) ||| BitVec.ofInt 64 (x : Int)).toNat : Int) = _
 rw [BitVec.toNat_or, ofInt64 z hl, ofInt64 x (by omega), e]
 exact wrap64_nat _ hlt
set_option maxRecDepth 100000 in
set_option maxHeartbeats 800000 in
theorem value_any (t : ByteArray) (w : World) (ht : t.size ≤ 4) :
  Calls Tryz.prog 111 #[.string t] w fun e w' => e = .returned (.int .i64 (valN t.data.toList : Int)) ∧ w' = w := by
 obtain ⟨n, hn⟩ : ∃ n, t.size = n := ⟨_, rfl⟩
 have hlen : t.data.toList.length = n := by rw [Array.length_toList]; exact hn
 go_enter Tryz.func111, Tryz.ntmps111
 go_wp2
 go_loop [3, 7] (fun c i => ∃ (k : Nat), k ≤ n ∧ i = .int .i64 k ∧ c = .int .i64 (valN (t.data.toList.take k) : Int)) (fun _ i => n - (intOf i).toNat)
 case atStart => exact ⟨0, Nat.zero_le _, rfl, rfl⟩
 case round =>
  obtain ⟨k, hk, rfl, rfl⟩ := hrel
  by_cases hlt : k < n
  · have hltz : (k : Int) < (n : Int) := by omega
    have hv := valN_lt t.data.toList k (by omega)
    have hv2 : valN (t.data.toList.take k) < 16777216 := by
     have : 256 ^ k ≤ 256 ^ 3 := Nat.pow_le_pow_right (by omega) (by omega)
     omega
    have hx : t[k].toNat < 256 := UInt8.toNat_lt _
    have hs : valN (t.data.toList.take (k + 1)) = valN (t.data.toList.take k) * 256 + t[k].toNat := by
     rw [valN_succ _ _ (by omega)]
     rfl
    have hb := or_bits (valN (t.data.toList.take k)) t[k].toNat hv2 hx
    rw [← hs] at hb
    obtain ⟨V, hV⟩ : ∃ V, valN (t.data.toList.take k) = V := ⟨_, rfl⟩
    rw [hV] at hb hv2 ⊢
    have hw : IntKind.i64.wrap ((V : Int) * 256) = (V : Int) * 256 := by simp [IntKind.wrap, IntKind.bits, IntKind.signed]; omega
    clear hs hv hV
    go_wp2
    go_round
    case rel => exact ⟨k + 1, by omega, by go_num, by rw [← hb]⟩
    case measure => simp [intOf]; omega
  · have hkk : k = n := by omega
    subst hkk
    have e : t.data.toList.take k = t.data.toList := List.take_of_length_le (by omega)
    rw [e]
    go_wp2
    go_ret
    exact ⟨rfl, rfl⟩
def rdT (t : ByteArray) (n : Nat) : ByteArray := if t.size < n then ⟨#[]⟩ else t.extract 0 n
def rdL (t : ByteArray) (n : Nat) : ByteArray := if t.size < n then ⟨#[]⟩ else t.extract n t.size
def rdS (t : ByteArray) (sh : Bool) (n : Nat) : Bool := if t.size < n then true else sh
def Rdr (w : World) (rb : Nat) (t : ByteArray) (sh : Bool) : Prop := w.heap[rb]? = some (.cells #[.string t, .bool sh] 166 (0, 0))
theorem Rdr.cells {w : World} {rb : Nat} {t : ByteArray} {sh : Bool} (h : Rdr w rb t sh) : w.cell? ⟨rb, 0, none⟩ = some (.string t) ∧ w.cell? ⟨rb, 1, none⟩ = some (.bool sh) ∧ w.frozen? ⟨rb, 0, none⟩ = false ∧ w.frozen? ⟨rb, 1, none⟩ = false := by
 unfold Rdr at h
 exact ⟨by rw [cell_of h]; rfl, by rw [cell_of h]; rfl, froz_of h _, froz_of h _⟩
set_option maxHeartbeats 400000 in
theorem newReader_any (t : ByteArray) (w : World) :
  Calls Tryz.prog 84 #[.string t] w fun e w' => e = .returned (.pointer (some ⟨w.heap.size, 0, none⟩)) ∧ Rdr w' w.heap.size t false ∧ Fr [] w w' := by
 go_enter Tryz.func84, Tryz.ntmps84
 go_wp2
 go_ret
 exact ⟨rfl, heap_alloc_new w _, (Fr.refl _ _).alloc _⟩
set_option maxHeartbeats 400000 in
theorem left_any (rb : Nat) (t : ByteArray) (sh : Bool) (w : World) (h : Rdr w rb t sh) :
  Calls Tryz.prog 89 #[.pointer (some ⟨rb, 0, none⟩)] w fun e w' => e = .returned (.int .i64 t.size) ∧ w' = w := by
 obtain ⟨c0, c1, f0, f1⟩ := h.cells
 clear h
 go_enter Tryz.func89, Tryz.ntmps89
 go_wp2
 go_ret
 exact ⟨rfl, rfl⟩
set_option maxHeartbeats 400000 in
theorem ended_any (rb : Nat) (t : ByteArray) (sh : Bool) (w : World) (h : Rdr w rb t sh) :
  Calls Tryz.prog 87 #[.pointer (some ⟨rb, 0, none⟩)] w fun e w' => e = .returned (.bool (decide (t.size = 0) && !sh)) ∧ w' = w := by
 obtain ⟨c0, c1, f0, f1⟩ := h.cells
 have HLf := left_any rb t sh w h
 clear h
 obtain ⟨n, hn⟩ : ∃ n, t.size = n := ⟨_, rfl⟩
 rw [hn] at HLf ⊢
 clear hn
 by_cases h0 : n = 0
 · subst h0
   go_enter Tryz.func87, Tryz.ntmps87
   go_wp2_with (go_at_call 89; refine HLf.mono ?_; rintro e w' ⟨rfl, hw'⟩; have hw' := hw'.symm; subst hw')
   go_ret
   exact ⟨by simp, rfl⟩
 · have h1 : ¬ ((n : Int) = 0) := by omega
   have h2 : ((n : Int) == 0) = false := by simpa using h1
   go_enter Tryz.func87, Tryz.ntmps87
   go_wp2_with (go_at_call 89; refine HLf.mono ?_; rintro e w' ⟨rfl, hw'⟩; have hw' := hw'.symm; subst hw')
   go_ret
   exact ⟨by simp [h0], rfl⟩
set_option maxRecDepth 100000 in
set_option maxHeartbeats 800000 in
theorem rtext_any (rb : Nat) (t : ByteArray) (sh : Bool) (n : Nat) (w : World) (h : Rdr w rb t sh) (hn : n ≤ 1000000) (_ht : t.size ≤ 1000000000) :
  Calls Tryz.prog 88 #[.pointer (some ⟨rb, 0, none⟩), .int .i64 n] w fun e w' => e = .returned (.string (rdT t n)) ∧ Rdr w' rb (rdL t n) (rdS t sh n) ∧ Fr [rb] w w' := by
 obtain ⟨c0, c1, f0, f1⟩ := h.cells
 have H : Hid (Rdr w rb t sh) := h
 unfold rdT rdL rdS
 by_cases hlt : t.size < n
 · rw [if_pos hlt, if_pos hlt, if_pos hlt]
   clear h
   go_enter Tryz.func88, Tryz.ntmps88
   go_wp2
   go_ret
   refine ⟨rfl, ?_, ((Fr.refl _ _).setCell _ (Or.inl (by simp))).setCell _ (Or.inl (by simp))⟩
   have h1 := heap_setCell_same w rb 0 _ _ (.string ⟨#[]⟩) H.out
   have h2 := heap_setCell_same _ rb 1 _ _ (.bool true) h1
   unfold Rdr
   rw [h2]
   rfl
 · rw [if_neg hlt, if_neg hlt, if_neg hlt]
   clear h
   go_enter Tryz.func88, Tryz.ntmps88
   go_wp2
   go_ret
   refine ⟨rfl, ?_, (Fr.refl _ _).setCell _ (Or.inl (by simp))⟩
   have h1 := heap_setCell_same w rb 0 _ _ (.string (t.extract n t.size)) H.out
   unfold Rdr
   rw [h1]
   rfl
theorem rdT_size (t : ByteArray) (n : Nat) : (rdT t n).size ≤ n := by
 unfold rdT
 split
 · exact Nat.zero_le _
 · rw [ByteArray.size_extract]; omega
theorem rdL_size (t : ByteArray) (n : Nat) : (rdL t n).size ≤ t.size := by
 unfold rdL
 split
 · exact Nat.zero_le _
 · rw [ByteArray.size_extract]; omega
set_option maxHeartbeats 400000 in
theorem rnumber_any (rb : Nat) (t : ByteArray) (sh : Bool) (w : World) (h : Rdr w rb t sh) (ht : t.size ≤ 1000000000) :
  Calls Tryz.prog 86 #[.pointer (some ⟨rb, 0, none⟩)] w fun e w' => e = .returned (.int .i64 (valN (rdT t 4).data.toList : Int)) ∧ Rdr w' rb (rdL t 4) (rdS t sh 4) ∧ Fr [rb] w w' := by
 have HT : Hid (Calls Tryz.prog 88 #[.pointer (some ⟨rb, 0, none⟩), .int .i64 4] w fun e w' => e = .returned (.string (rdT t 4)) ∧ Rdr w' rb (rdL t 4) (rdS t sh 4) ∧ Fr [rb] w w') := rtext_any rb t sh 4 w h (by omega) ht
 have HV : Hid (∀ W, Calls Tryz.prog 111 #[.string (rdT t 4)] W fun e w' => e = .returned (.int .i64 (valN (rdT t 4).data.toList : Int)) ∧ w' = W) := fun W => value_any (rdT t 4) W (rdT_size t 4)
 obtain ⟨r, hr⟩ : ∃ r, rdT t 4 = r := ⟨_, rfl⟩
 rw [hr] at HT HV ⊢
 clear h hr
 go_enter Tryz.func86, Tryz.ntmps86
 go_wp2_with (first
  | (go_at_call 88; refine HT.out.mono ?_; rintro e w2 ⟨rfl, r2, f2⟩)
  | (go_at_call 111; refine (HV.out _).mono ?_; rintro e w' ⟨rfl, hw'⟩; have hw' := hw'.symm; subst hw'))
 go_ret
 exact ⟨rfl, r2, f2⟩
set_option maxHeartbeats 400000 in
theorem rbyte_any (rb : Nat) (t : ByteArray) (sh : Bool) (w : World) (h : Rdr w rb t sh) (ht : t.size ≤ 1000000000) :
  Calls Tryz.prog 85 #[.pointer (some ⟨rb, 0, none⟩)] w fun e w' => e = .returned (.int .i64 (valN (rdT t 1).data.toList : Int)) ∧ Rdr w' rb (rdL t 1) (rdS t sh 1) ∧ Fr [rb] w w' := by
 have HT : Hid (Calls Tryz.prog 88 #[.pointer (some ⟨rb, 0, none⟩), .int .i64 1] w fun e w' => e = .returned (.string (rdT t 1)) ∧ Rdr w' rb (rdL t 1) (rdS t sh 1) ∧ Fr [rb] w w') := rtext_any rb t sh 1 w h (by omega) ht
 have HV : Hid (∀ W, Calls Tryz.prog 111 #[.string (rdT t 1)] W fun e w' => e = .returned (.int .i64 (valN (rdT t 1).data.toList : Int)) ∧ w' = W) := fun W => value_any (rdT t 1) W (by have := rdT_size t 1; omega)
 obtain ⟨r, hr⟩ : ∃ r, rdT t 1 = r := ⟨_, rfl⟩
 rw [hr] at HT HV ⊢
 clear h hr
 go_enter Tryz.func85, Tryz.ntmps85
 go_wp2_with (first
  | (go_at_call 88; refine HT.out.mono ?_; rintro e w2 ⟨rfl, r2, f2⟩)
  | (go_at_call 111; refine (HV.out _).mono ?_; rintro e w' ⟨rfl, hw'⟩; have hw' := hw'.symm; subst hw'))
 go_ret
 exact ⟨rfl, r2, f2⟩
def fnvS (c : Nat) (x : UInt8) : Nat := (c ^^^ x.toNat) * 16777619 % 4294967296
def fnv (l : List UInt8) : Nat := l.foldl fnvS 2166136261
def chk (l : List UInt8) : B4 := n4 (fnv l : Int)
theorem fnv_succ (l : List UInt8) (k : Nat) (h : k < l.length) : fnv (l.take (k + 1)) = fnvS (fnv (l.take k)) l[k] := by
 unfold fnv
 rw [List.take_succ_eq_append_getElem h, List.foldl_append, List.foldl_cons, List.foldl_nil]
theorem fnv_lt' : ∀ (l : List UInt8) (c : Nat), c < 4294967296 → l.foldl fnvS c < 4294967296
 | [], _, h => h
 | x :: r, c, _ => by
  rw [List.foldl_cons]
  exact fnv_lt' r _ (by unfold fnvS; omega)
theorem fnv_lt (l : List UInt8) : fnv l < 4294967296 := fnv_lt' l _ (by omega)
theorem bits_xor_u32_nat (a b : Nat) (ha : a < 4294967296) (hb : b < 4294967296) : bits .xor .u32 (a : Int) (b : Int) = ((a ^^^ b : Nat) : Int) := by
 have hx : a ^^^ b < 2 ^ 32 := Nat.xor_lt_two_pow (by omega) (by omega)
 have h1 : (BitVec.ofInt 32 (a : Int)).toNat = a := by
  rw [BitVec.ofInt_natCast, BitVec.toNat_ofNat]; exact Nat.mod_eq_of_lt (by omega)
 have h2 : (BitVec.ofInt 32 (b : Int)).toNat = b := by
  rw [BitVec.ofInt_natCast, BitVec.toNat_ofNat]; exact Nat.mod_eq_of_lt (by omega)
 show IntKind.u32.wrap ((BitVec.ofInt 32 (a : Int) ^^^ BitVec.ofInt 32 (b : Int)).toNat : Int) = _
 rw [BitVec.toNat_xor, h1, h2]
 simp [IntKind.wrap, IntKind.bits, IntKind.signed]
 omega
theorem fnv_step (t : ByteArray) (k : Nat) (h : k < t.size) : bits .xor .u32 (fnv (t.data.toList.take k) : Int) ((t[k].toNat : Int) % 4294967296) * 16777619 % 4294967296 = (fnv (t.data.toList.take (k + 1)) : Int) := by
 have hl : k < t.data.toList.length := by rw [Array.length_toList]; exact h
 have hx : t[k].toNat < 256 := t[k].toNat_lt
 rw [fnv_succ _ _ hl, show ((t[k].toNat : Int) % 4294967296) = ((t[k].toNat : Nat) : Int) by omega, bits_xor_u32_nat _ _ (fnv_lt _) (by omega)]
 unfold fnvS
 have e : t.data.toList[k] = t[k] := by
  rw [Array.getElem_toList]
  rfl
 rw [e]
 omega
set_option maxRecDepth 100000 in
set_option maxHeartbeats 800000 in
theorem checkOf_any (t : ByteArray) (w : World) (ht : t.size ≤ 2000000) :
  Calls Tryz.prog 107 #[.string t] w fun e w' => e = .returned (.string (chk t.data.toList).ba) ∧ Fr [] w w' := by
 obtain ⟨n, hn⟩ : ∃ n, t.size = n := ⟨_, rfl⟩
 go_enter Tryz.func107, Tryz.ntmps107
 go_wp2
 go_loop [3, 7] (fun c i => ∃ (k : Nat), k ≤ n ∧ i = .int .i64 k ∧ c = .int .u32 (fnv (t.data.toList.take k) : Int)) (fun _ i => n - (intOf i).toNat)
 case atStart => exact ⟨0, Nat.zero_le _, rfl, rfl⟩
 case round =>
  obtain ⟨k, hk, rfl, rfl⟩ := hrel
  by_cases hlt : k < n
  · have hltz : (k : Int) < (n : Int) := by omega
    have hs := fnv_step t k (by omega)
    go_wp2
    go_round
    case rel => exact ⟨k + 1, by omega, by go_num, by rw [← hs]⟩
    case measure => simp [intOf]; omega
  · have hkk : k = n := by omega
    subst hkk
    have e : t.data.toList.take k = t.data.toList := List.take_of_length_le (by rw [Array.length_toList]; exact Nat.le_of_eq hn)
    rw [e]
    have HU : Hid (∀ W, Calls Tryz.prog 22 #[.int .i64 (fnv t.data.toList : Int)] W fun e w' => e = .returned (.string (chk t.data.toList).ba) ∧ Fr [] W w') := fun W => number_any (fnv t.data.toList : Int) W
    have hf := fnv_lt t.data.toList
    obtain ⟨f, hff⟩ : ∃ f, fnv t.data.toList = f := ⟨_, rfl⟩
    rw [hff] at hf HU ⊢
    have hw : IntKind.i64.wrap (f : Int) = (f : Int) := by simp [IntKind.wrap, IntKind.bits, IntKind.signed]; omega
    have hw2 : wrap64 (f : Int) = (f : Int) := by unfold wrap64; omega
    go_wp2_with (go_at_call 22; (try rw [hw2]); refine (HU.out _).mono ?_; rintro e w' ⟨rfl, f5⟩)
    go_ret
    exact ⟨rfl, f5⟩
end Go.Proofs.YthdhegmlknpllaaGreat
