/-
  A store in memory: what its blocks hold.
-/
import Derived.Test.YtpjeiclhjclbiaaRows
import Derived.Test.YtpjeiclhjclbiaaLocks
import Derived.Conc.MuLone
import Derived.WalkKit
import Derived.WalkSpells
import Derived.WalkLawsBesides
import Derived.Deep.QuietTactic
import Derived.BigQuiet
import Derived.Deep.LoopGhost
import Derived.Maps.OwnSet
import Derived.DeepKeys4
import Derived.Laws.IdiomStrings
import Derived.Lib.LazyBuf
import Derived.WalkArith
namespace Go.Proofs.Ytpjeiclhjclbiaa
open Go.RowKit Go.Maps

/-- Four bytes. -/
structure B4 where
  a : UInt8
  b : UInt8
  c : UInt8
  d : UInt8

def u8 (x : UInt8) : Value := .int .u8 (x.toNat : Int)
def B4.cells (x : B4) : List Value := [u8 x.a, u8 x.b, u8 x.c, u8 x.d]
def B4.val (x : B4) : Value := .agg #[u8 x.a, u8 x.b, u8 x.c, u8 x.d]
def B4.list (x : B4) : List UInt8 := [x.a, x.b, x.c, x.d]
def B4.str (x : B4) : Value := .string ⟨#[x.a, x.b, x.c, x.d]⟩
def B4.zero : B4 := ⟨0, 0, 0, 0⟩

theorem B4.val_inj {x y : B4} (h : x.val = y.val) : x = y := by
  cases x; cases y
  simp [B4.val, u8] at h
  obtain ⟨h1, h2, h3, h4⟩ := h
  have e1 := UInt8.toNat_inj.1 (Int.ofNat.inj h1)
  have e2 := UInt8.toNat_inj.1 (Int.ofNat.inj h2)
  have e3 := UInt8.toNat_inj.1 (Int.ofNat.inj h3)
  have e4 := UInt8.toNat_inj.1 (Int.ofNat.inj h4)
  rw [e1, e2, e3, e4]

/-- What stands in a block: its bytes, and how many snapshots had come when it was written. -/
structure Ct where
  x : B4
  n : Int
def Ct.cells (c : Ct) : List Value := [u8 c.x.a, u8 c.x.b, u8 c.x.c, u8 c.x.d, .int .i64 c.n]
def Ct.val (c : Ct) : Value := .agg #[u8 c.x.a, u8 c.x.b, u8 c.x.c, u8 c.x.d, .int .i64 c.n]
def Ct.zero : Ct := ⟨B4.zero, 0⟩

theorem Ct.val_inj {c d : Ct} (h : c.val = d.val) : c = d := by
  obtain ⟨⟨a1, a2, a3, a4⟩, n⟩ := c
  obtain ⟨⟨b1, b2, b3, b4⟩, m⟩ := d
  simp [Ct.val, u8] at h
  obtain ⟨h1, h2, h3, h4, h5⟩ := h
  have e1 := UInt8.toNat_inj.1 (Int.ofNat.inj h1)
  have e2 := UInt8.toNat_inj.1 (Int.ofNat.inj h2)
  have e3 := UInt8.toNat_inj.1 (Int.ofNat.inj h3)
  have e4 := UInt8.toNat_inj.1 (Int.ofNat.inj h4)
  rw [e1, e2, e3, e4, h5]

/-- A snapshot of a store. -/
structure Sn where
  guid : Int
  time : Int
  holds : Int
  came : Int
def Sn.cells (x : Sn) : List Value := [.int .i64 x.guid, .int .i64 x.time, .int .i64 x.holds, .int .i64 x.came]

def mkCells (x : Int × Int) : List Value := [.int .i64 x.1, .int .i64 x.2]

/-- A store: what it is, and where. -/
structure Sto where
  id : Int
  vol : List Ct
  ss : List Sn
  th : Int → Int → Ct
  ms : List (Int × Int)
  came : Int
  taken : Int
  vb : Nat
  mb : Nat
  cnt : Nat
  sv : Value
  mv : Value
  log : List UInt8
  lv : Value

def volC (l : List Ct) : List Value := l.flatMap Ct.cells
def logC (l : List UInt8) : List Value := l.map u8
theorem logC_len (l : List UInt8) : (logC l).length = l.length := by simp [logC]
def snC (l : List Sn) : List Value := l.flatMap Sn.cells
def mkC (l : List (Int × Int)) : List Value := l.flatMap mkCells

theorem volC_len (l : List Ct) : (volC l).length = l.length * 5 := by
  induction l with
  | nil => rfl
  | cons x r ih => simp [volC, Ct.cells] at ih ⊢; omega
theorem snC_len (l : List Sn) : (snC l).length = l.length * 4 := by
  induction l with
  | nil => rfl
  | cons x r ih => simp [snC, Sn.cells] at ih ⊢; omega
theorem mkC_len (l : List (Int × Int)) : (mkC l).length = l.length * 2 := by
  induction l with
  | nil => rfl
  | cons x r ih => simp [mkC, mkCells] at ih ⊢; omega

theorem flat_get {α : Type} {f : α → List Value} {k : Nat} (hf : ∀ x, (f x).length = k) : ∀ (l : List α) (i : Nat) (h : i < l.length) (j : Nat), j < k → (l.flatMap f)[i * k + j]? = (f l[i])[j]?
  | [], i, h, _, _ => by simp at h
  | x :: r, 0, _, j, hj => by
    simp only [List.flatMap_cons, Nat.zero_mul, Nat.zero_add, List.getElem_cons_zero]
    rw [List.getElem?_append_left (by rw [hf]; exact hj)]
  | x :: r, i + 1, h, j, hj => by
    simp only [List.flatMap_cons, List.getElem_cons_succ]
    rw [List.getElem?_append_right (by rw [hf, Nat.add_mul]; omega), hf, show (i + 1) * k + j - k = i * k + j by rw [Nat.add_mul]; omega]
    exact flat_get hf r i (by simpa using h) j hj

theorem volC_get (l : List Ct) (i : Nat) (h : i < l.length) : (volC l)[i * 5]? = some (u8 l[i].x.a) ∧ (volC l)[i * 5 + 1]? = some (u8 l[i].x.b) ∧ (volC l)[i * 5 + 2]? = some (u8 l[i].x.c) ∧ (volC l)[i * 5 + 3]? = some (u8 l[i].x.d) ∧ (volC l)[i * 5 + 4]? = some (.int .i64 l[i].n) := by
  have hf : ∀ x : Ct, x.cells.length = 5 := fun _ => rfl
  refine ⟨?_, ?_, ?_, ?_, ?_⟩
  · exact (flat_get hf l i h 0 (by omega))
  · exact (flat_get hf l i h 1 (by omega))
  · exact (flat_get hf l i h 2 (by omega))
  · exact (flat_get hf l i h 3 (by omega))
  · exact (flat_get hf l i h 4 (by omega))
theorem snC_get (l : List Sn) (i : Nat) (h : i < l.length) : (snC l)[i * 4]? = some (.int .i64 l[i].guid) ∧ (snC l)[i * 4 + 1]? = some (.int .i64 l[i].time) ∧ (snC l)[i * 4 + 2]? = some (.int .i64 l[i].holds) ∧ (snC l)[i * 4 + 3]? = some (.int .i64 l[i].came) := by
  have hf : ∀ x : Sn, x.cells.length = 4 := fun _ => rfl
  refine ⟨?_, ?_, ?_, ?_⟩
  · exact (flat_get hf l i h 0 (by omega))
  · exact (flat_get hf l i h 1 (by omega))
  · exact (flat_get hf l i h 2 (by omega))
  · exact (flat_get hf l i h 3 (by omega))
theorem mkC_get (l : List (Int × Int)) (i : Nat) (h : i < l.length) : (mkC l)[i * 2]? = some (.int .i64 l[i].1) ∧ (mkC l)[i * 2 + 1]? = some (.int .i64 l[i].2) := by
  have hf : ∀ x : Int × Int, (mkCells x).length = 2 := fun _ => rfl
  exact ⟨flat_get hf l i h 0 (by omega), flat_get hf l i h 1 (by omega)⟩

/-! The map. -/
def RV (v : Value) : Option (DataW Value × List MemPlace) := some (.held v, [])
def kl (g i : Int) : Lit := .string (keyBytes [.int .i64 g, .int .i64 i])
def In64 (x : Int) : Prop := -9223372036854775808 ≤ x ∧ x ≤ 9223372036854775807

theorem laidOut : laidOutB Try.prog = true := by kernel_rfl
theorem law118 : Keyed Try.prog 118 := Keyed.of_law (deep_law_laid laidOut (m := 3) (by omega) (of_decide_eq_true (by kernel_rfl)) (by kernel_rfl) (by rw [Try.underlying118]))

theorem wf64 {x : Int} (h : In64 x) : (Lit.int .i64 x).wf = true := by
  exact WalkArith.wf_i64 h

theorem key_mk {g i : Int} (hg : In64 g) (hi : In64 i) : keyOf Try.prog 118 (.agg #[.int .i64 g, .int .i64 i]) = some (kl g i) := by
  have h1 : Try.prog.keyType 118 = true := by kernel_rfl
  have h2 : Try.prog.cellsOf 118 = 2 := by kernel_rfl
  have h3 : Try.prog.cellsOf 3 = 1 := by kernel_rfl
  obtain ⟨m, hm⟩ : ∃ m, Try.prog.types.size = m + 1 := ⟨197, by kernel_rfl⟩
  unfold keyOf
  simp only [Try.underlying118]
  rw [if_pos (by simp [h1, Value.formed, Try.underlying118, h2]), hm]
  unfold Program.keyLits
  simp only [Try.underlying118, Value.cells]
  rw [if_pos (by rw [h2]; exact ⟨rfl, by simp⟩)]
  simp [h3, Program.keyLits, Try.underlying3, wf64 hg, wf64 hi, kl]

theorem kl_inj {g i g' i' : Int} (hg : In64 g) (hi : In64 i) (hg' : In64 g') (hi' : In64 i') (h : kl g i = kl g' i') : g = g' ∧ i = i' := by
  have h1 := key_mk hg hi
  have h2 := key_mk hg' hi'
  rw [← h] at h2
  have := law118.inj h1 h2
  simpa using this

/-- The map tells th. -/
def MapOf (w : World) (mb cnt : Nat) (th : Int → Int → Ct) : Prop :=
  ∃ D : DataW Value, w.ownsMap Try.prog 118 RV mb cnt D ∧ ∀ g i, In64 g → In64 i → D.atKey (kl g i) (.held Ct.zero.val) = .held (th g i).val

/-! What is written. -/
structure Fr (F : List Nat) (w w' : World) : Prop where
  os : w'.os = w.os
  tape : w'.tape = w.tape
  output : w'.output = w.output
  size : w.heap.size ≤ w'.heap.size
  block : ∀ k, k < w.heap.size → k ∉ F → w'.heap[k]? = w.heap[k]?

theorem Fr.refl (F : List Nat) (w : World) : Fr F w w := ⟨rfl, rfl, rfl, Nat.le_refl _, fun _ _ _ => rfl⟩
theorem Fr.trans {F F' : List Nat} {w w1 w2 : World} (h : Fr F w w1) (h' : Fr F' w1 w2) (hs : ∀ k ∈ F', k ∈ F ∨ w.heap.size ≤ k) : Fr F w w2 :=
  ⟨h'.os.trans h.os, h'.tape.trans h.tape, h'.output.trans h.output, Nat.le_trans h.size h'.size, fun k hk hn =>
    (h'.block k (Nat.lt_of_lt_of_le hk h.size) (fun e => by rcases hs k e with h | h; exact hn h; omega)).trans (h.block k hk hn)⟩
theorem Fr.alloc {F : List Nat} {w w1 : World} (h : Fr F w w1) (o : Obj) : Fr F w (w1.alloc o) :=
  ⟨h.os, h.tape, h.output, by simp; have := h.size; omega, fun k hk hn => by rw [Below.heap_alloc w1 o k (Nat.lt_of_lt_of_le hk h.size)]; exact h.block k hk hn⟩
theorem Fr.setCell {F : List Nat} {w w1 : World} (h : Fr F w w1) {a : Addr} (v : Value) (ha : a.block ∈ F ∨ w.heap.size ≤ a.block) : Fr F w (w1.setCell a v) :=
  ⟨h.os, h.tape, h.output, by simp; exact h.size, fun k hk hn => by
    rw [heap_setCell_other w1 a k v (fun e => by subst e; rcases ha with h | h; exact hn h; omega)]; exact h.block k hk hn⟩
theorem Fr.drew {F : List Nat} {w w1 : World} (h : Fr F w w1) : Fr F w w1.drew := ⟨h.os, h.tape, h.output, h.size, h.block⟩
theorem Fr.drewN {F : List Nat} {w w1 : World} (h : Fr F w w1) (n : Nat) : Fr F w (w1.drewN n) := ⟨h.os, h.tape, h.output, h.size, h.block⟩
theorem Fr.grown {F : List Nat} {w w1 w2 : World} {row : Option Nat} (h : Fr F w w1) (hg : w1.grownBy w2 row) (hr : ∀ k, row = some k → k ∈ F ∨ w.heap.size ≤ k) : Fr F w w2 :=
  ⟨hg.os.trans h.os, hg.tape.trans h.tape, hg.output.trans h.output, Nat.le_trans h.size hg.size, fun k hk hn =>
    (hg.block k (Nat.lt_of_lt_of_le hk h.size) (fun e => by rcases hr k e.symm with h | h; exact hn h; omega)).trans (h.block k hk hn)⟩
theorem Fr.mono {F F' : List Nat} {w w1 : World} (h : Fr F w w1) (hs : ∀ k ∈ F, k ∈ F') : Fr F' w w1 :=
  ⟨h.os, h.tape, h.output, h.size, fun k hk hn => h.block k hk (fun e => hn (hs k e))⟩
theorem Fr.below {F : List Nat} {w w1 : World} {B : Nat} (h : Fr F w w1) (hB : B ≤ w.heap.size) (hs : ∀ k ∈ F, B ≤ k) : Below B w w1 :=
  ⟨h.os, h.tape, h.output, h.size, fun k hk => h.block k (by omega) (fun e => by have := hs k e; omega)⟩
theorem Fr.gb {w w1 : World} (h : Fr [] w w1) : w.grownBy w1 none := ⟨h.os, h.tape, h.output, h.size, fun k hk _ => h.block k hk (by simp)⟩

/-! The store. -/
def Sto.blk (s : Sto) (q : Int) : Obj :=
  .cells #[.int .i32 q, .int .u32 0, .int .i64 s.id, .slice (some ⟨s.vb, 0, none⟩) s.vol.length s.vol.length, s.sv, .map (some s.mb), s.mv, .int .i64 s.came, .int .i64 s.taken, s.lv] 93 (0, 0)

structure Rep (B : Nat) (w : World) (b : Nat) (q : Int) (s : Sto) : Prop where
  blk : w.heap[b]? = some (s.blk q)
  vol : w.heap[s.vb]? = some (.cells (volC s.vol).toArray 97 (0, 0))
  ss : w.ownsRow B 102 4 s.sv s.ss.length (snC s.ss)
  th : MapOf w s.mb s.cnt s.th
  ms : w.ownsRow B 107 2 s.mv s.ms.length (mkC s.ms)
  lg : w.ownsRow B 5 1 s.lv s.log.length (logC s.log)
  hb : B ≤ b
  hvb : B ≤ s.vb
  hmb : B ≤ s.mb

def foot (b : Nat) (s : Sto) : List Nat := [b, s.vb, s.mb] ++ s.sv.ownBlock.toList ++ s.mv.ownBlock.toList ++ s.lv.ownBlock.toList

theorem MapOf.at {w : World} {mb cnt : Nat} {th : Int → Int → Ct} (h : MapOf w mb cnt th) : ∃ es clock, w.heap[mb]? = some (.map es clock) := by
  obtain ⟨D, ⟨es, clock, h, _⟩, _⟩ := h
  exact ⟨es, clock, h⟩
theorem MapOf.of_block {w w' : World} {mb cnt : Nat} {th : Int → Int → Ct} (h : MapOf w mb cnt th) (he : w'.heap[mb]? = w.heap[mb]?) : MapOf w' mb cnt th := by
  obtain ⟨D, ⟨es, clock, h1, h2⟩, h3⟩ := h
  exact ⟨D, ⟨es, clock, by rw [he]; exact h1, h2⟩, h3⟩
theorem own_of_block {w w' : World} {base : Nat} {e : TypeId} {size : Nat} {v : Value} {n : Nat} {xs : List Value} (h : w.ownsRow base e size v n xs) (he : ∀ k, v.ownBlock = some k → w'.heap[k]? = w.heap[k]?) : w'.ownsRow base e size v n xs := by
  refine ⟨h.1, ?_⟩
  rcases h.2 with hn | ⟨g, cap, cur, rfl, hb, hgg, rest⟩
  · exact .inl hn
  · exact .inr ⟨g, cap, cur, rfl, hb, by rw [he g rfl]; exact hgg, rest⟩
theorem own_tag {w : World} {base : Nat} {e : TypeId} {size : Nat} {v : Value} {n : Nat} {xs : List Value} (h : w.ownsRow base e size v n xs) {k : Nat} (hk : v.ownBlock = some k) : base ≤ k ∧ ∃ cur, w.heap[k]? = some (.cells cur e (0, 0)) := by
  rcases h.2 with ⟨rfl, _⟩ | ⟨g, cap, cur, rfl, hb, hgg, rest⟩
  · simp [Value.ownBlock] at hk
  · simp [Value.ownBlock] at hk
    subst hk
    exact ⟨hb, cur, hgg⟩

theorem Rep.of_foot {B : Nat} {w w' : World} {b : Nat} {q : Int} {s : Sto} (h : Rep B w b q s) (he : ∀ k ∈ foot b s, w'.heap[k]? = w.heap[k]?) : Rep B w' b q s := by
  refine ⟨?_, ?_, ?_, ?_, ?_, ?_, h.hb, h.hvb, h.hmb⟩
  · rw [he b (by simp [foot])]; exact h.blk
  · rw [he s.vb (by simp [foot])]; exact h.vol
  · exact own_of_block h.ss (fun k hk => he k (by simp [foot, hk]))
  · exact h.th.of_block (he s.mb (by simp [foot]))
  · exact own_of_block h.ms (fun k hk => he k (by simp [foot, hk]))
  · exact own_of_block h.lg (fun k hk => he k (by simp [foot, hk]))

theorem Rep.lt {B : Nat} {w : World} {b : Nat} {q : Int} {s : Sto} (h : Rep B w b q s) : ∀ k ∈ foot b s, B ≤ k ∧ k < w.heap.size := by
  intro k hk
  simp only [foot, List.mem_append, List.mem_cons, List.not_mem_nil, or_false, Option.mem_toList] at hk
  rcases hk with (((rfl | rfl | rfl) | h1) | h1) | h1
  · exact ⟨h.hb, (Array.getElem?_eq_some_iff.1 h.blk).1⟩
  · exact ⟨h.hvb, (Array.getElem?_eq_some_iff.1 h.vol).1⟩
  · obtain ⟨es, c, h1⟩ := h.th.at
    exact ⟨h.hmb, (Array.getElem?_eq_some_iff.1 h1).1⟩
  · exact h.ss.lt k h1
  · exact h.ms.lt k h1
  · exact h.lg.lt k h1

theorem Rep.kept {B : Nat} {w w' : World} {b : Nat} {q : Int} {s : Sto} {F : List Nat} (h : Rep B w b q s) (hf : Fr F w w') (hn : ∀ k ∈ foot b s, k ∉ F) : Rep B w' b q s :=
  h.of_foot fun k hk => hf.block k (h.lt k hk).2 (hn k hk)
theorem Rep.kept0 {B : Nat} {w w' : World} {b : Nat} {q : Int} {s : Sto} (h : Rep B w b q s) (hf : Fr [] w w') : Rep B w' b q s := h.kept hf (by simp)

/-- The blocks of a store are apart. -/
theorem Rep.apart {B : Nat} {w : World} {b : Nat} {q : Int} {s : Sto} (h : Rep B w b q s) : s.vb ≠ b ∧ s.mb ≠ b ∧ s.mb ≠ s.vb ∧ (∀ k, s.sv.ownBlock = some k → k ≠ b ∧ k ≠ s.vb ∧ k ≠ s.mb ∧ s.mv.ownBlock ≠ some k) ∧ (∀ k, s.mv.ownBlock = some k → k ≠ b ∧ k ≠ s.vb ∧ k ≠ s.mb) ∧ (∀ k, s.lv.ownBlock = some k → k ≠ b ∧ k ≠ s.vb ∧ k ≠ s.mb ∧ s.sv.ownBlock ≠ some k ∧ s.mv.ownBlock ≠ some k) := by
  obtain ⟨es, c, h1⟩ := h.th.at
  have h2 := h.blk
  have h3 := h.vol
  unfold Sto.blk at h2
  refine ⟨fun e => ?_, fun e => ?_, fun e => ?_, fun k hk => ?_, fun k hk => ?_, fun k hk => ?_⟩
  · rw [e, h2] at h3; simp at h3
  · rw [e, h2] at h1; simp at h1
  · rw [e, h3] at h1; simp at h1
  · obtain ⟨_, cur, h4⟩ := own_tag h.ss hk
    refine ⟨fun e => ?_, fun e => ?_, fun e => ?_, fun e => ?_⟩
    · rw [e, h2] at h4; simp at h4
    · rw [e, h3] at h4; simp at h4
    · rw [e, h1] at h4; simp at h4
    · obtain ⟨_, cur', h5⟩ := own_tag h.ms e
      rw [h4] at h5; simp at h5
  · obtain ⟨_, cur, h4⟩ := own_tag h.ms hk
    refine ⟨fun e => ?_, fun e => ?_, fun e => ?_⟩
    · rw [e, h2] at h4; simp at h4
    · rw [e, h3] at h4; simp at h4
    · rw [e, h1] at h4; simp at h4
  · obtain ⟨_, cur, h4⟩ := own_tag h.lg hk
    refine ⟨fun e => ?_, fun e => ?_, fun e => ?_, fun e => ?_, fun e => ?_⟩
    · rw [e, h2] at h4; simp at h4
    · rw [e, h3] at h4; simp at h4
    · rw [e, h1] at h4; simp at h4
    · obtain ⟨_, cur', h5⟩ := own_tag h.ss e
      rw [h4] at h5; simp at h5
    · obtain ⟨_, cur', h5⟩ := own_tag h.ms e
      rw [h4] at h5; simp at h5

theorem cell_of {w : World} {b : Nat} {cs : Array Value} {t : TypeId} {fr : Nat × Nat} (h : w.heap[b]? = some (.cells cs t fr)) (j : Nat) : w.cell? ⟨b, j, none⟩ = cs[j]? := by simp [World.cell?, h]
theorem froz_of {w : World} {b : Nat} {cs : Array Value} {t : TypeId} (h : w.heap[b]? = some (.cells cs t (0, 0))) (j : Nat) : w.frozen? ⟨b, j, none⟩ = false := by simp [World.frozen?, h]

/-- The lock's word is turned. -/
theorem Rep.lock {B : Nat} {w : World} {b : Nat} {q : Int} {s : Sto} (h : Rep B w b q s) (q' : Int) : Rep B (w.setCell ⟨b, 0, none⟩ (.int .i32 q')) b q' s := by
  obtain ⟨a1, a2, a3, a4, a5, a6⟩ := h.apart
  refine ⟨?_, ?_, ?_, ?_, ?_, ?_, h.hb, h.hvb, h.hmb⟩
  · rw [heap_setCell_same w b 0 _ _ _ h.blk]; rfl
  · rw [heap_setCell_other _ _ _ _ (by exact a1)]; exact h.vol
  · exact own_of_block h.ss (fun k hk => heap_setCell_other _ _ _ _ (a4 k hk).1)
  · exact h.th.of_block (heap_setCell_other _ _ _ _ (by exact a2))
  · exact own_of_block h.ms (fun k hk => heap_setCell_other _ _ _ _ (a5 k hk).1)
  · exact own_of_block h.lg (fun k hk => heap_setCell_other _ _ _ _ (a6 k hk).1)

theorem Rep.cells {B : Nat} {w : World} {b : Nat} {q : Int} {s : Sto} (h : Rep B w b q s) :
    w.cell? ⟨b, 0, none⟩ = some (.int .i32 q) ∧ w.cell? ⟨b, 2, none⟩ = some (.int .i64 s.id) ∧ w.cell? ⟨b, 3, none⟩ = some (.slice (some ⟨s.vb, 0, none⟩) s.vol.length s.vol.length) ∧
    w.cell? ⟨b, 4, none⟩ = some s.sv ∧ w.cell? ⟨b, 5, none⟩ = some (.map (some s.mb)) ∧ w.cell? ⟨b, 6, none⟩ = some s.mv ∧ w.cell? ⟨b, 7, none⟩ = some (.int .i64 s.came) ∧ w.cell? ⟨b, 8, none⟩ = some (.int .i64 s.taken) ∧ w.cell? ⟨b, 9, none⟩ = some s.lv := by
  have h2 := h.blk
  unfold Sto.blk at h2
  refine ⟨?_, ?_, ?_, ?_, ?_, ?_, ?_, ?_, ?_⟩ <;> rw [cell_of h2] <;> rfl
theorem Rep.frozen {B : Nat} {w : World} {b : Nat} {q : Int} {s : Sto} (h : Rep B w b q s) (j : Nat) : w.frozen? ⟨b, j, none⟩ = false := froz_of h.blk j
end Go.Proofs.Ytpjeiclhjclbiaa
