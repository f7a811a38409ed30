import Derived.Test.YthdhegmlknpllaaGreatM01
import Derived.Lib.AppendStr
import Derived.Deep.AppendLies
/-
  The walks of wire.Number (54), note (50).
-/
namespace Go.Proofs.YthdhegmlknpllaaGreat
open Go.RowKit Go.Maps Go.MuLone

theorem info_parts {t : TypeId} {z : Value} {a b : Nat} (h : (Tryz.prog.info? t).map (fun i => (i.zero, i.size, i.bytes)) = some (some z, a, b)) : ∃ i, Tryz.prog.info? t = some i ∧ i.zero = some z ∧ i.size = a ∧ i.bytes = b := by
  cases hi : Tryz.prog.info? t with
  | none => rw [hi] at h; simp at h
  | some i => rw [hi] at h; simp at h; exact ⟨i, rfl, h.1, h.2.1, h.2.2⟩

theorem str_conv {w : World} {vb o : Nat} {x : B4} (h0 : w.cell? ⟨vb, o, none⟩ = some (u8 x.a)) (h1 : w.cell? ⟨vb, o + 1, none⟩ = some (u8 x.b)) (h2 : w.cell? ⟨vb, o + 2, none⟩ = some (u8 x.c)) (h3 : w.cell? ⟨vb, o + 3, none⟩ = some (u8 x.d)) :
    (convert 74 9 (.slice (some ⟨vb, o, none⟩) 4 4)).run Tryz.prog w = .ok x.str w := by
  have := run_convert_bytes_back (P := Tryz.prog) w 74 9 5 ⟨vb, o, none⟩ 4 x.list Tryz.underlying74 Tryz.underlying5 Tryz.underlying9 (by
    intro j hj
    have hj' : j < 4 := hj
    rcases (by omega : j = 0 ∨ j = 1 ∨ j = 2 ∨ j = 3) with rfl | rfl | rfl | rfl
    · exact h0
    · exact h1
    · exact h2
    · exact h3)
  exact this

/-- A number's byte. -/
def byt (z : Int) : UInt8 := UInt8.ofNat (z % 256).toNat
theorem byt_eq (z : Int) : z % 256 = ((byt z).toNat : Int) := by
  unfold byt
  rw [UInt8.toNat_ofNat']
  omega
/-- A number in four bytes. -/
def n4 (z : Int) : B4 := ⟨byt (z / 16777216), byt (z / 65536), byt (z / 256), byt z⟩
def B4.ba (x : B4) : ByteArray := ⟨#[x.a, x.b, x.c, x.d]⟩

set_option maxRecDepth 100000 in
set_option maxHeartbeats 800000 in
theorem number_any (z : Int) (w : World) :
    Calls Tryz.prog 22 #[.int .i64 z] w fun e w' => e = .returned (.string (n4 z).ba) ∧ Fr [] w w' := by
  have e1 := byt_eq (z / 16777216)
  have e2 := byt_eq (z / 65536)
  have e3 := byt_eq (z / 256)
  have e4 := byt_eq z
  have hcv : (convert 74 9 (.slice (some ⟨w.heap.size, 0, none⟩) 4 4)).run Tryz.prog (w.alloc (.cells #[.int .u8 (z / 16777216 % 256), .int .u8 (z / 65536 % 256), .int .u8 (z / 256 % 256), .int .u8 (z % 256)] 5)) = .ok (.string (n4 z).ba) (w.alloc (.cells #[.int .u8 (z / 16777216 % 256), .int .u8 (z / 65536 % 256), .int .u8 (z / 256 % 256), .int .u8 (z % 256)] 5)) := by
    rw [e1, e2, e3, e4]
    exact str_conv (x := n4 z) (by simp [u8, n4]) (by simp [u8, n4]) (by simp [u8, n4]) (by simp [u8, n4])
  clear e1 e2 e3 e4
  go_enter Tryz.func22, Tryz.ntmps22
  go_wp2
  go_ret
  exact ⟨rfl, (Fr.refl _ _).alloc _⟩

/-- What stands in the log of a call. -/
def entry (c : UInt8) (t : ByteArray) : List UInt8 := UInt8.ofNat (1 + t.size) :: c :: t.data.toList
def Sto.noted (s : Sto) (c : UInt8) (t : ByteArray) (lv : Value) : Sto := { s with log := s.log ++ entry c t, lv := lv }

theorem Rep.setLog {B : Nat} {w w' : World} {b : Nat} {q : Int} {s : Sto} (h : Rep B w b q s) {l : List UInt8} {lv : Value} (ho : w'.ownsRow B 5 1 lv l.length (logC l)) (hg : w.grownBy w' s.lv.ownBlock) :
    Rep B (w'.setCell ⟨b, 9, none⟩ lv) b q { s with log := l, lv := lv } := by
  obtain ⟨a1, a2, a3, a4, a5, a6⟩ := h.apart
  have hb : w'.heap[b]? = some (s.blk q) := by rw [hg.block b (h.lt b (by simp [foot])).2 (fun e => (a6 b e.symm).1 rfl)]; exact h.blk
  have hsb : ∀ k, lv.ownBlock = some k → k ≠ b := fun k hk e => by
    obtain ⟨_, cur, h4⟩ := own_tag ho hk
    rw [e, hb] at h4
    simp [Sto.blk] at h4
  refine ⟨?_, ?_, ?_, ?_, ?_, ?_, h.hb, h.hvb, h.hmb⟩
  · rw [heap_setCell_same w' b 9 _ _ _ hb]; rfl
  · rw [heap_setCell_other _ _ _ _ (by exact a1), hg.block s.vb (h.lt s.vb (by simp [foot])).2 (fun e => (a6 s.vb e.symm).2.1 rfl)]; exact h.vol
  · refine own_of_block h.ss (fun k hk => ?_)
    rw [heap_setCell_other _ _ _ _ (a4 k hk).1, hg.block k (h.ss.lt k hk).2 (fun e => (a6 k e.symm).2.2.2.1 hk)]
  · refine h.th.of_block ?_
    rw [heap_setCell_other _ _ _ _ (by exact a2), hg.block s.mb (h.lt s.mb (by simp [foot])).2 (fun e => (a6 s.mb e.symm).2.2.1 rfl)]
  · refine own_of_block h.ms (fun k hk => ?_)
    rw [heap_setCell_other _ _ _ _ (a5 k hk).1, hg.block k (h.ms.lt k hk).2 (fun e => (a6 k e.symm).2.2.2.2 hk)]
  · exact own_of_block (w := w') ho (fun k hk => heap_setCell_other _ _ _ _ (hsb k hk))

theorem own_shape {w : World} {base : Nat} {e : TypeId} {size : Nat} {v : Value} {n : Nat} {xs : List Value} (h : w.ownsRow base e size v n xs) : ∃ a c, v = .slice a n c := by
  rcases h.2 with ⟨rfl, rfl⟩ | ⟨g, c, cur, rfl, _⟩
  · exact ⟨none, 0, rfl⟩
  · exact ⟨_, _, rfl⟩

theorem info5 : (Tryz.prog.info? 5).map (fun i => (i.zero, i.size, i.bytes)) = some (some (.int .u8 0), 1, 1) := by kernel_rfl
theorem strC (t : ByteArray) : Go.Lib.strCells t = logC t.data.toList := rfl

theorem news2 (w : World) (x y : Value) : ∀ j u, [x, y][j]? = some u → (w.alloc (.cells #[x, y] 5)).cell? ((⟨w.heap.size, 0, none⟩ : Addr).add j) = some u :=
  World.news_of_block (cs := #[x, y]) (t := 5) (fr := (0, 0)) (heap_alloc_new w _)

/-- A string's bytes onto a row of one's own that is there: where the row lies. -/
theorem run_append_text {w : World} (base : Nat) (ty : TypeId) (g cap n : Nat) (xs : List Value) (hown : w.ownsRow base 5 1 (.slice (some ⟨g, 0, none⟩) n cap) n xs) (t : ByteArray) (hb : n + t.size ≤ 140737488355328) (hbase : base ≤ w.heap.size) :
    ∃ g' cap' w', (Builtin.append_ #[74, 9] ty #[.slice (some ⟨g, 0, none⟩) n cap, .string t]).run Tryz.prog w = .ok (.slice (some ⟨g', 0, none⟩) (n + t.size) cap') w' ∧ w'.ownsRow base 5 1 (.slice (some ⟨g', 0, none⟩) (n + t.size) cap') (n + t.size) (xs ++ logC t.data.toList) ∧ w.grownBy w' (some g) ∧ (g' = g ∨ g' = w.heap.size) := by
  obtain ⟨i0, hi, hz0, hz1, hz2⟩ := info_parts info5
  obtain ⟨v', w', hr, ho, hg, _⟩ := Go.Lib.run_append_own_string (P := Tryz.prog) w base 74 9 ty 5 i0 Tryz.underlying74 Tryz.underlying9 hi hz0 hz1 hz2 _ n xs hown t (by unfold maxLen; omega) hb hbase
  rcases hown.2 with ⟨h1, _⟩ | ⟨g2, cap2, cur, h1, hbg, hgg, hnc, hcm, hcs, htake⟩
  · simp at h1
  · simp at h1
    obtain ⟨rfl, rfl⟩ := h1
    have hcs' : cur.size = cap := by simpa using hcs
    by_cases hroom : n + t.size ≤ cap
    · have hr2 := Go.Lib.run_append_room_string (P := Tryz.prog) w 74 9 ty 5 i0 Tryz.underlying74 Tryz.underlying9 hi hz1 g n cap cur hgg t hroom (by omega)
      rw [hr] at hr2
      simp only [Result.ok.injEq] at hr2
      obtain ⟨rfl, _⟩ := hr2
      exact ⟨_, _, _, hr, ho, hg, Or.inl rfl⟩
    · have holds : ∀ j u, xs[j]? = some u → w.cell? ((⟨g, 0, none⟩ : Addr).add j) = some u := hown.cells (g := g) rfl
      have hr2 := Go.Lib.run_append_grow_string (P := Tryz.prog) w 74 9 ty 5 i0 (.int .u8 0) Tryz.underlying74 Tryz.underlying9 hi hz0 ⟨g, 0, none⟩ n cap xs (by rw [hz1]; exact hown.1) holds t (by omega) (by omega) (by rw [hz2]; exact growslice_fits (by omega) (by omega))
      rw [hr] at hr2
      simp only [Result.ok.injEq] at hr2
      obtain ⟨rfl, _⟩ := hr2
      exact ⟨_, _, _, hr, ho, hg, Or.inr rfl⟩

theorem wpList_append_text {ops : Array Oper} {rest : List Oper} {o : Oper} {a : Act} {Q : Exit → Act → World → Prop} (w : World) (hgd : o.guard = none) (sl x : Operand)
    (ho : o.op = .call { callee := .builtin .append, args := #[sl, x], argTypes := #[74, 9] })
    (base g cap n : Nat) (xs : List Value) (hs : a.eval sl = .slice (some ⟨g, 0, none⟩) n cap) (hown : w.ownsRow base 5 1 (.slice (some ⟨g, 0, none⟩) n cap) n xs) (t : ByteArray) (hx : a.eval x = .string t)
    (hb : n + t.size ≤ 140737488355328) (hbase : base ≤ w.heap.size)
    (h : ∀ g' cap' w', w'.ownsRow base 5 1 (.slice (some ⟨g', 0, none⟩) (n + t.size) cap') (n + t.size) (xs ++ logC t.data.toList) → w.grownBy w' (some g) → (g' = g ∨ g' = w.heap.size) → wpList Tryz.prog ops Q rest (a.put o.dst (.slice (some ⟨g', 0, none⟩) (n + t.size) cap')) w') : wpList Tryz.prog ops Q (o :: rest) a w := by
  refine wpList_plain hgd fun K hK => ?_
  obtain ⟨g', cap', w', hr, h2, h3, h4⟩ := run_append_text base o.type g cap n xs hown t hb hbase
  unfold Oper.wp execOp
  simp only [ho, resolve, invoke, builtin, Sem.run_bind, Sem.run_pure, Result.andThen_ok, List.map_toArray, List.map_cons, List.map_nil, hs, hx, hr]
  exact hK _ _ (h g' cap' w' h2 h3 h4)

/-- Behind note's first append and store. -/
theorem note_mid {B b : Nat} {q : Int} {s : Sto} {w w5 : World} {l : List UInt8} {lv : Value} {o : Obj} (h : Rep B w b q s) (ho : w5.ownsRow B 5 1 lv (s.log.length + l.length) (logC s.log ++ logC l)) (hg : (w.alloc o).grownBy w5 s.lv.ownBlock) :
    Rep B (w5.setCell ⟨b, 9, none⟩ lv) b q { s with log := s.log ++ l, lv := lv } ∧ Fr (foot b s) w (w5.setCell ⟨b, 9, none⟩ lv) ∧ (w5.setCell ⟨b, 9, none⟩ lv).ownsRow B 5 1 lv (s.log.length + l.length) (logC (s.log ++ l)) ∧ (∀ k, lv.ownBlock = some k → k ≠ b) := by
  have R1 := h.kept0 ((Fr.refl [] w).alloc o)
  have R2 := R1.setLog (l := s.log ++ l) (by rw [List.length_append]; simpa [logC] using ho) hg
  have L2 := R2.lg
  rw [List.length_append] at L2
  refine ⟨R2, ?_, L2, fun k hk => (R2.apart.2.2.2.2.2 k hk).1⟩
  refine Fr.setCell ?_ _ (Or.inl (by simp [foot]))
  exact ((Fr.refl _ w).alloc o).grown hg (fun k hk => Or.inl (by simp [foot, hk]))

set_option maxRecDepth 100000 in
set_option maxHeartbeats 1600000 in
theorem note_any (B b : Nat) (q : Int) (s : Sto) (c : UInt8) (t : ByteArray) (w : World) (h : Rep B w b q s) (ht : t.size ≤ 1000) (hl : s.log.length ≤ 140000000000000) :
    Calls Tryz.prog 21 #[.pointer (some ⟨b, 0, none⟩), .int .u8 (c.toNat : Int), .string t] w fun e w' => e = .returned (.tuple #[]) ∧ ∃ lv, Rep B w' b q (s.noted c t lv) ∧ Fr (foot b s) w w' ∧ (∀ k, lv.ownBlock = some k → s.lv.ownBlock = some k ∨ w.heap.size ≤ k) := by
  obtain ⟨i0, hi, hz0, hz1, hz2⟩ := info_parts info5
  obtain ⟨c0, c2, c3, c4, c5, c6, c7, c8, c9⟩ := h.cells
  have f9 := h.frozen 9
  have lb : b < w.heap.size := World.block_lt_of_cell? _ _ c0
  have hBw : B ≤ w.heap.size := by have := h.hb; omega
  obtain ⟨ao, cap, hlv⟩ := own_shape h.lg
  have HO : Hid (w.ownsRow B 5 1 s.lv s.log.length (logC s.log)) := h.lg
  have hne : s.lv.ownBlock ≠ some b := fun e => (h.apart.2.2.2.2.2 b e).1 rfl
  have HR : Hid (Rep B w b q s) := h
  rw [hlv] at HO hne c9
  obtain ⟨m, hm⟩ : ∃ m, t.size = m := ⟨_, rfl⟩
  have e1 : (1 + (m : Int)) % 256 = ((UInt8.ofNat (1 + m)).toNat : Int) := by rw [UInt8.toNat_ofNat']; omega
  obtain ⟨n, hn⟩ : ∃ n, s.log.length = n := ⟨_, rfl⟩
  rw [hn] at c9 HO hl hne hlv
  clear h c3 c4 c6
  obtain ⟨y, hy⟩ : ∃ y, UInt8.ofNat (1 + m) = y := ⟨_, rfl⟩
  rw [hy] at e1
  have HE : Hid (UInt8.ofNat (1 + m) = y ∧ t.size = m ∧ s.log.length = n) := ⟨hy, hm, hn⟩
  clear hy hn
  go_enter Tryz.func21, Tryz.ntmps21
  have HNW := news2 w (.int .u8 (y.toNat : Int)) (.int .u8 (c.toNat : Int))
  go_wp2_with (first
    | (at_builtin; refine wpList_append_lies _ rfl _ _ 74 rfl B 5 i0 _ 1 1 Tryz.underlying74 hi hz0 hz1 hz2 rfl (by omega) (.slice ao n cap) n (logC s.log) rfl (HO.out.alloc _) ⟨w.heap.size, 0, none⟩ 2 2 [.int .u8 (y.toNat : Int), .int .u8 (c.toNat : Int)] rfl rfl HNW (by simp [Value.oneCell']) (by omega) (by unfold maxLen; omega) (by omega) (by simp; omega) (w.heap.size + 1) (by simp) ?_; intro g5 cap5 w5 hown5 hgrow5 hat5 hlt5; have c95 : w5.cell? ⟨b, 9, none⟩ = some (.slice ao n cap) := (hgrow5.cell_far ⟨b, 9, none⟩ (by simp; omega) (Ne.symm hne)).trans ((World.cell?_of_block (Below.heap_alloc w _ b lb)).trans c9); have f5 : w5.frozen? ⟨b, 9, none⟩ = false := (hgrow5.frozen_far ⟨b, 9, none⟩ (by simp; omega) (Ne.symm hne)).trans ((World.frozen?_of_block (Below.heap_alloc w _ b lb)).trans f9); have HM := note_mid (l := [y, c]) HR.out (by rw [HE.out.2.2]; exact hown5) (by rw [hlv]; exact hgrow5); have c96 := HM.1.cells.2.2.2.2.2.2.2.2; have f96 := HM.1.frozen 9; obtain ⟨w6, hw6⟩ : ∃ w6, w5.setCell ⟨b, 9, none⟩ (.slice (some ⟨g5, 0, none⟩) (n + 2) cap5) = w6 := ⟨_, rfl⟩; rw [hw6] at HM c96 f96; have HM' : Hid (Rep B w6 b q { s with log := s.log ++ [y, c], lv := .slice (some ⟨g5, 0, none⟩) (n + 2) cap5 } ∧ Fr (foot b s) w w6 ∧ (s.lv.ownBlock = some g5 ∨ w.heap.size ≤ g5) ∧ w6.ownsRow B 5 1 (.slice (some ⟨g5, 0, none⟩) (n + 2) cap5) (n + 2) (logC (s.log ++ [y, c])) ∧ g5 ≠ b ∧ B ≤ w6.heap.size) := ⟨HM.1, HM.2.1, by rw [hlv]; exact hat5.imp_right (fun h => by omega), by have := HM.2.2.1; rw [HE.out.2.2] at this; exact this, HM.2.2.2 g5 rfl, Nat.le_trans hBw HM.2.1.size⟩; clear HM hown5 hgrow5 hat5 hlt5 HO HNW)
    | (at_builtin; refine wpList_append_text _ rfl _ _ rfl B g5 cap5 (n + 2) (logC (s.log ++ [y, c])) rfl HM'.out.2.2.2.1 t rfl (by omega) HM'.out.2.2.2.2.2 ?_; intro g7 cap7 w7 hown7 hgrow7 hat7; have hlt6 : b < w6.heap.size := World.block_lt_of_cell? _ _ c96; have hne7 : g5 ≠ b := HM'.out.2.2.2.2.1; have f7 : w7.frozen? ⟨b, 9, none⟩ = false := (hgrow7.frozen_far ⟨b, 9, none⟩ (by simpa using hlt6) (by simpa using Ne.symm hne7)).trans f96; have c97 : w7.cell? ⟨b, 9, none⟩ = some (.slice (some ⟨g5, 0, none⟩) (n + 2) cap5) := (hgrow7.cell_far ⟨b, 9, none⟩ (by simpa using hlt6) (by simpa using Ne.symm hne7)).trans c96; clear hw6))
  subst hm
  go_end0
  refine ⟨rfl, .slice (some ⟨g7, 0, none⟩) (n + 2 + t.size) cap7, ?_, ?_, ?_⟩
  · have := HM'.out.1.setLog (l := s.log ++ [y, c] ++ t.data.toList) (lv := .slice (some ⟨g7, 0, none⟩) (n + 2 + t.size) cap7) (w' := w7) (by
      have e : (s.log ++ [y, c] ++ t.data.toList).length = n + 2 + t.size := by rw [← HE.out.2.2]; simp; omega
      rw [e]
      simpa [logC] using hown7) hgrow7
    have e2 : s.noted c t (.slice (some ⟨g7, 0, none⟩) (n + 2 + t.size) cap7) = { s with log := s.log ++ [y, c] ++ t.data.toList, lv := .slice (some ⟨g7, 0, none⟩) (n + 2 + t.size) cap7 } := by
      unfold Sto.noted entry
      rw [HE.out.2.1, HE.out.1]
      simp
    rw [e2]
    exact this
  · refine Fr.setCell ?_ _ (Or.inl (by simp [foot]))
    refine HM'.out.2.1.grown hgrow7 (fun k hk => ?_)
    have hk' : g5 = k := by simpa using hk
    subst hk'
    exact HM'.out.2.2.1.imp_left (fun h => by simp [foot, h])
  · intro k hk
    have hk' : g7 = k := by simpa [Value.ownBlock] using hk
    subst hk'
    have hs6 := HM'.out.2.1.size
    rcases hat7 with e | e
    · rw [e, ← hlv]; exact HM'.out.2.2.1
    · right; omega
end Go.Proofs.YthdhegmlknpllaaGreat
