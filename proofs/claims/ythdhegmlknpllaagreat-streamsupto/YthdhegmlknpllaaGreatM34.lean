import Derived.Test.YthdhegmlknpllaaGreatM33
import Derived.Laws.IdiomCopy
import Derived.Test.YthdhegmlknpllaaGreatM31
/-
  What ParseStream (74) reads: pure, and the copy of four bytes.
-/
namespace Go.Proofs.YthdhegmlknpllaaGreat
open Go.RowKit Go.Maps Go.MuLone

abbrev RS := ByteArray × Bool
def rdN (r : RS) (n : Nat) : RS := (rdL r.1 n, rdS r.1 r.2 n)
/-- Four bytes, or none. -/
def b4 (t : ByteArray) : B4 := ⟨t.data.toList[0]?.getD 0, t.data.toList[1]?.getD 0, t.data.toList[2]?.getD 0, t.data.toList[3]?.getD 0⟩
/-- The first k blocks that are read, and what is left. -/
def rdBs (r : RS) : Nat → List (Int × B4) × RS
  | 0 => ([], r)
  | k + 1 => ((rdBs r k).1 ++ [((valN (rdT (rdBs r k).2.1 1).data.toList : Int), b4 (rdT (rdN (rdBs r k).2 1).1 4))], rdN (rdN (rdBs r k).2 1) 4)

theorem rdT_two (t : ByteArray) (n : Nat) : (rdT t n).size = 0 ∨ (rdT t n).size = n := by
  unfold rdT
  split
  · exact Or.inl rfl
  · right
    rw [ByteArray.size_extract]
    omega

theorem rdBs_len (r : RS) : ∀ k, (rdBs r k).1.length = k
  | 0 => rfl
  | k + 1 => by rw [rdBs, List.length_append, rdBs_len r k]; rfl

/-- What was short stays short. -/
theorem rdN_short {r : RS} (h : r.2 = true) (n : Nat) : (rdN r n).2 = true := by
  unfold rdN rdS
  simp only
  split
  · rfl
  · exact h
theorem rdBs_short {r : RS} (h : r.2 = true) : ∀ k, (rdBs r k).2.2 = true
  | 0 => h
  | k + 1 => by
    rw [rdBs]
    exact rdN_short (rdN_short (rdBs_short h k) 1) 4
/-- What is read in all: as many bytes as there were, less those that are left, if none was wanting. -/
theorem rdN_size {r : RS} {n : Nat} (h : (rdN r n).2 = false) : r.2 = false ∧ r.1.size = n + (rdN r n).1.size := by
  unfold rdN rdS rdL at h ⊢
  simp only at h ⊢
  by_cases hlt : r.1.size < n
  · rw [if_pos hlt] at h
    cases h
  · rw [if_neg hlt] at h
    refine ⟨h, ?_⟩
    rw [if_neg hlt, ByteArray.size_extract]
    omega
theorem rdBs_size {r : RS} : ∀ k, (rdBs r k).2.2 = false → r.2 = false ∧ r.1.size = 5 * k + (rdBs r k).2.1.size
  | 0, h => ⟨h, by simp [rdBs]⟩
  | k + 1, h => by
    rw [rdBs] at h ⊢
    have h1 := rdN_size h
    have h2 := rdN_size h1.1
    have h3 := rdBs_size k h2.1
    refine ⟨h3.1, ?_⟩
    simp only
    omega

theorem fr_cellsP {F : List Nat} {w : World} {vb : Nat} (hv : vb ∈ F) : ∀ (l : List Value) (o : Nat) (w1 : World), Fr F w w1 → Fr F w (w1.setCells vb o l)
  | [], _, _, h => h
  | v :: r, o, _, h => fr_cellsP hv r (o + 1) _ (h.setCell v (Or.inl hv))

theorem copy4 (w : World) (b8 : Nat) (z : Int) (tx : ByteArray) (h : w.heap[b8]? = some (.cells #[.int .i64 z, .int .u8 0, .int .u8 0, .int .u8 0, .int .u8 0] 137 (0, 0))) (ht : tx.size = 0 ∨ tx.size = 4) :
    ∃ w', (∀ ty, (Builtin.copy_ #[74, 9] ty #[.slice (some ⟨b8, 1, none⟩) 4 4, .string tx]).run Tryz.prog w = .ok (goInt tx.size) w') ∧ w'.heap[b8]? = some (.cells (bkC (z, b4 tx)).toArray 137 (0, 0)) ∧ Fr [b8] w w' := by
  have hrun := fun ty => run_copy_string (P := Tryz.prog) w 74 9 ty 5 b8 1 4 4 tx Tryz.underlying74 (fun w => Tryz.sizeOf5 w) (by omega) (by
      intro j hj
      have hj' : j < 4 := by omega
      rw [cell_of h]
      rcases (by omega : j = 0 ∨ j = 1 ∨ j = 2 ∨ j = 3) with rfl | rfl | rfl | rfl <;> rfl) (fun j _ => froz_of h _)
  refine ⟨_, hrun, ?_, ?_⟩
  · rcases ht with h0 | h4
    · have e : tx.data.toList = [] := by
        apply List.eq_nil_of_length_eq_zero
        rw [Array.length_toList]
        exact h0
      have e3 : b4 tx = ⟨0, 0, 0, 0⟩ := by
        unfold b4
        rw [e]
        rfl
      rw [e, e3]
      exact h
    · obtain ⟨a, b, c, d, e⟩ : ∃ a b c d, tx.data.toList = [a, b, c, d] := by
        have hl : tx.data.toList.length = 4 := by rw [Array.length_toList]; exact h4
        match hh : tx.data.toList, hl with
        | [a, b, c, d], _ => exact ⟨a, b, c, d, rfl⟩
      have e3 : b4 tx = ⟨a, b, c, d⟩ := by
        unfold b4
        rw [e]
        rfl
      rw [e, e3]
      have h1 := heap_setCell_same w b8 1 _ _ (.int .u8 (a.toNat : Int)) h
      have h2 := heap_setCell_same _ b8 2 _ _ (.int .u8 (b.toNat : Int)) h1
      have h3 := heap_setCell_same _ b8 3 _ _ (.int .u8 (c.toNat : Int)) h2
      have h4 := heap_setCell_same _ b8 4 _ _ (.int .u8 (d.toNat : Int)) h3
      simp only [List.map_cons, List.map_nil, World.setCells]
      rw [h4]
      rfl
  · exact fr_cellsP (by simp) _ _ _ (Fr.refl _ _)
end Go.Proofs.YthdhegmlknpllaaGreat

/-
  What holds while ParseStream (74) reads.
-/
namespace Go.Proofs.YthdhegmlknpllaaGreat
open Go.RowKit Go.Maps Go.MuLone

def z116 : Obj := .cells #[.int .i64 0, .int .i64 0, .int .i64 0, .int .i64 0, .slice none 0 0] 135 (0, 0)
/-- While the text is read. -/
structure PJ (w W : World) (bx rb : Nat) (r : RS) : Prop where
  rd : Rdr W rb r.1 r.2
  fr : Fr [] w W
  box : W.heap[bx]? = some z116
  le : w.heap.size ≤ rb
  le2 : r.1.size ≤ 2000000

theorem rdN_le (r : RS) (n : Nat) : (rdN r n).1.size ≤ r.1.size := rdL_size r.1 n

theorem PJ.read {w W W' : World} {bx rb n : Nat} {r : RS} (h : PJ w W bx rb r) (hr : Rdr W' rb (rdL r.1 n) (rdS r.1 r.2 n)) (hf : Fr [rb] W W') : PJ w W' bx rb (rdN r n) := by
  have hne : bx ≠ rb := fun e => by
    have h1 := h.box
    have h2 := h.rd
    unfold Rdr at h2
    unfold z116 at h1
    rw [e, h2] at h1
    simp at h1
  refine ⟨hr, h.fr.trans hf (fun k hk => Or.inr (by simp at hk; subst hk; exact h.le)), ?_, h.le, Nat.le_trans (rdN_le r n) h.le2⟩
  rw [hf.block bx (Array.getElem?_eq_some_iff.1 h.box).1 (by simpa using hne)]
  exact h.box

theorem PJ.number {w W : World} {bx rb : Nat} {r : RS} (h : PJ w W bx rb r) : Calls Tryz.prog 86 #[.pointer (some ⟨rb, 0, none⟩)] W fun e w' => e = .returned (.int .i64 (valN (rdT r.1 4).data.toList : Int)) ∧ PJ w w' bx rb (rdN r 4) ∧ Fr [rb] W w' :=
  (rnumber_any rb r.1 r.2 W h.rd (by have := h.le2; omega)).mono fun _ _ ⟨e, a, b⟩ => ⟨e, h.read a b, b⟩
theorem PJ.byte {w W : World} {bx rb : Nat} {r : RS} (h : PJ w W bx rb r) : Calls Tryz.prog 85 #[.pointer (some ⟨rb, 0, none⟩)] W fun e w' => e = .returned (.int .i64 (valN (rdT r.1 1).data.toList : Int)) ∧ PJ w w' bx rb (rdN r 1) ∧ Fr [rb] W w' :=
  (rbyte_any rb r.1 r.2 W h.rd (by have := h.le2; omega)).mono fun _ _ ⟨e, a, b⟩ => ⟨e, h.read a b, b⟩
theorem PJ.text {w W : World} {bx rb : Nat} {r : RS} (h : PJ w W bx rb r) : Calls Tryz.prog 88 #[.pointer (some ⟨rb, 0, none⟩), .int .i64 4] W fun e w' => e = .returned (.string (rdT r.1 4)) ∧ PJ w w' bx rb (rdN r 4) ∧ Fr [rb] W w' :=
  (rtext_any rb r.1 r.2 4 W h.rd (by omega) (by have := h.le2; omega)).mono fun _ _ ⟨e, a, b⟩ => ⟨e, h.read a b, b⟩

theorem PJ.alloc {w W : World} {bx rb : Nat} {r : RS} (h : PJ w W bx rb r) (o : Obj) : PJ w (W.alloc o) bx rb r :=
  ⟨by have := h.rd; unfold Rdr at this ⊢; rw [Below.heap_alloc _ _ _ (Array.getElem?_eq_some_iff.1 this).1]; exact this, h.fr.alloc _, by rw [Below.heap_alloc _ _ _ (Array.getElem?_eq_some_iff.1 h.box).1]; exact h.box, h.le, h.le2⟩
end Go.Proofs.YthdhegmlknpllaaGreat

/-
  Pure: what the reader reads of a stream, and of its first parts.
-/
namespace Go.Proofs.YthdhegmlknpllaaGreat
open Go.RowKit Go.Maps Go.MuLone

def ofL (l : List UInt8) : ByteArray := ⟨l.toArray⟩
theorem ofL_size (l : List UInt8) : (ofL l).size = l.length := by
  show l.toArray.size = l.length
  simp
theorem ofL_list (l : List UInt8) : (ofL l).data.toList = l := by simp [ofL]
theorem ofL_ext {a b : ByteArray} (h : a.data.toList = b.data.toList) : a = b := by
  apply ByteArray.ext
  exact Array.toList_inj.1 h
theorem ofL_back (t : ByteArray) : ofL t.data.toList = t := ofL_ext (by simp [ofL])
theorem ext_list (t : ByteArray) (a b : Nat) : (t.extract a b).data.toList = (t.data.toList.drop a).take (b - a) := by
  simp [ByteArray.data_extract]
theorem ofL_append (a b : List UInt8) : ofL a ++ ofL b = ofL (a ++ b) := ofL_ext (by simp [ofL])

theorem rdT_app (a b : List UInt8) (n : Nat) (h : a.length = n) : rdT (ofL (a ++ b)) n = ofL a := by
  unfold rdT
  rw [if_neg (by rw [ofL_size, List.length_append]; omega)]
  refine ofL_ext ?_
  rw [ext_list, ofL_list, ofL_list, List.drop_zero, Nat.sub_zero, ← h, List.take_left]
theorem rdN_app (a b : List UInt8) (sh : Bool) (n : Nat) (h : a.length = n) : rdN (ofL (a ++ b), sh) n = (ofL b, sh) := by
  unfold rdN rdL rdS
  have hs : ¬ (ofL (a ++ b)).size < n := by rw [ofL_size, List.length_append]; omega
  simp only
  rw [if_neg hs, if_neg hs]
  congr 1
  refine ofL_ext ?_
  rw [ext_list, ofL_list, ofL_list, ← h, List.drop_left, ofL_size, List.length_append]
  exact List.take_of_length_le (by omega)

theorem val4 (z : Int) (h : 0 ≤ z ∧ z < 4294967296) : (valN (n4 z).list' : Int) = z := by
  have e1 := byt_eq (z / 16777216)
  have e2 := byt_eq (z / 65536)
  have e3 := byt_eq (z / 256)
  have e4 := byt_eq z
  simp only [valN, B4.list', n4, List.foldl_cons, List.foldl_nil]
  omega
theorem val1 (z : Int) (h : 0 ≤ z ∧ z < 256) : (valN [byt z] : Int) = z := by
  have e4 := byt_eq z
  simp only [valN, List.foldl_cons, List.foldl_nil]
  omega
theorem b4_of (x : B4) : b4 (ofL x.list') = x := by
  unfold b4
  rw [ofL_list]
  rfl
theorem ba_ofL (x : B4) : x.ba = ofL x.list' := rfl

def Small (l : List (Int × B4)) : Prop := ∀ x ∈ l, 0 ≤ x.1 ∧ x.1 < 256
theorem rdBs_blT (l : List (Int × B4)) (sh : Bool) (hs : Small l) : ∀ k, k ≤ l.length → rdBs (ofL (blT l), sh) k = (l.take k, (ofL (blT (l.drop k)), sh))
  | 0, _ => by simp [rdBs]
  | k + 1, hk => by
    have ih := rdBs_blT l sh hs k (by omega)
    have hd : l.drop k = l[k] :: l.drop (k + 1) := List.drop_eq_getElem_cons (by omega)
    have e : blT (l.drop k) = [byt l[k].1] ++ (l[k].2.list' ++ blT (l.drop (k + 1))) := by
      rw [hd]
      unfold blT
      rw [List.flatMap_cons]
      rfl
    rw [rdBs, ih]
    simp only
    rw [e, rdT_app _ _ 1 rfl, rdN_app _ _ _ 1 rfl]
    simp only
    rw [rdT_app _ _ 4 rfl, rdN_app _ _ _ 4 rfl, ofL_list, val1 _ (hs _ (List.getElem_mem _)), b4_of, List.take_succ_eq_append_getElem (by omega)]

/-- What ParseStream has read ahead of the blocks. -/
def q1 (u : ByteArray) : RS := rdN (u, false) 4
def q2 (u : ByteArray) : RS := rdN (q1 u) 4
def q3 (u : ByteArray) : RS := rdN (q2 u) 4
def q4 (u : ByteArray) : RS := rdN (q3 u) 4
def q5 (u : ByteArray) : RS := rdN (q4 u) 1
def q6 (u : ByteArray) : RS := rdN (q5 u) 1
def qf (u : ByteArray) : Nat := valN (rdT (q1 u).1 4).data.toList
def qt (u : ByteArray) : Nat := valN (rdT (q2 u).1 4).data.toList
def qm (u : ByteArray) : Nat := valN (rdT (q3 u).1 4).data.toList
def qb (u : ByteArray) : Nat := valN (rdT (q4 u).1 1).data.toList
def qn (u : ByteArray) : Nat := valN (rdT (q5 u).1 1).data.toList
def ql (u : ByteArray) : List (Int × B4) := (rdBs (q6 u) (qn u)).1
def qe (u : ByteArray) : RS := (rdBs (q6 u) (qn u)).2

theorem body_split (f t m nb : Int) (l : List (Int × B4)) : bodyT f t m nb l = [83, 78, 68, 49] ++ ((n4 f).list' ++ ((n4 t).list' ++ ((n4 m).list' ++ ([byt nb] ++ ([byt (l.length : Int)] ++ blT l))))) := by
  simp [bodyT, headT, B4.ba, B4.list']

/-- Of a stream's body it reads what was written, and ends. -/
theorem q_body (f t m nb : Int) (l : List (Int × B4)) (hf : 0 ≤ f ∧ f < 4294967296) (ht : 0 ≤ t ∧ t < 4294967296) (hm : 0 ≤ m ∧ m < 4294967296) (hn : 0 ≤ nb ∧ nb < 256) (hl : l.length < 256) (hs : Small l) :
    rdT (ofL (bodyT f t m nb l)) 4 = ⟨#[83, 78, 68, 49]⟩ ∧ (qf (ofL (bodyT f t m nb l)) : Int) = f ∧ (qt (ofL (bodyT f t m nb l)) : Int) = t ∧ (qm (ofL (bodyT f t m nb l)) : Int) = m ∧ (qb (ofL (bodyT f t m nb l)) : Int) = nb ∧ qn (ofL (bodyT f t m nb l)) = l.length ∧ ql (ofL (bodyT f t m nb l)) = l ∧ qe (ofL (bodyT f t m nb l)) = (⟨#[]⟩, false) := by
  have a0 := body_split f t m nb l
  have a1 : q1 (ofL (bodyT f t m nb l)) = (ofL ((n4 f).list' ++ ((n4 t).list' ++ ((n4 m).list' ++ ([byt nb] ++ ([byt (l.length : Int)] ++ blT l))))), false) := by
    unfold q1
    rw [a0, rdN_app _ _ _ 4 rfl]
  have a2 : q2 (ofL (bodyT f t m nb l)) = (ofL ((n4 t).list' ++ ((n4 m).list' ++ ([byt nb] ++ ([byt (l.length : Int)] ++ blT l)))), false) := by
    unfold q2
    rw [a1, rdN_app _ _ _ 4 rfl]
  have a3 : q3 (ofL (bodyT f t m nb l)) = (ofL ((n4 m).list' ++ ([byt nb] ++ ([byt (l.length : Int)] ++ blT l))), false) := by
    unfold q3
    rw [a2, rdN_app _ _ _ 4 rfl]
  have a4 : q4 (ofL (bodyT f t m nb l)) = (ofL ([byt nb] ++ ([byt (l.length : Int)] ++ blT l)), false) := by
    unfold q4
    rw [a3, rdN_app _ _ _ 4 rfl]
  have a5 : q5 (ofL (bodyT f t m nb l)) = (ofL ([byt (l.length : Int)] ++ blT l), false) := by
    unfold q5
    rw [a4, rdN_app _ _ _ 1 rfl]
  have a6 : q6 (ofL (bodyT f t m nb l)) = (ofL (blT l), false) := by
    unfold q6
    rw [a5, rdN_app _ _ _ 1 rfl]
  have a7 : qn (ofL (bodyT f t m nb l)) = l.length := by
    unfold qn
    rw [a5, rdT_app _ _ 1 rfl, ofL_list]
    have := val1 (l.length : Int) ⟨by omega, by omega⟩
    omega
  have a8 := rdBs_blT l false hs l.length (Nat.le_refl _)
  refine ⟨?_, ?_, ?_, ?_, ?_, a7, ?_, ?_⟩
  · rw [a0, rdT_app _ _ 4 rfl]
    rfl
  · unfold qf
    rw [a1, rdT_app _ _ 4 rfl, ofL_list]
    exact val4 f hf
  · unfold qt
    rw [a2, rdT_app _ _ 4 rfl, ofL_list]
    exact val4 t ht
  · unfold qm
    rw [a3, rdT_app _ _ 4 rfl, ofL_list]
    exact val4 m hm
  · unfold qb
    rw [a4, rdT_app _ _ 1 rfl, ofL_list]
    exact val1 nb hn
  · unfold ql
    rw [a6, a7, a8, List.take_length]
  · unfold qe
    rw [a6, a7, a8, List.drop_length]
    rfl

/-- A text that ends where it must is as long as it says. -/
theorem qe_size {u : ByteArray} (h : (qe u).2 = false) (h0 : (qe u).1.size = 0) : u.size = 18 + 5 * qn u := by
  unfold qe at h h0
  have b0 := rdBs_size (r := q6 u) (qn u) h
  have b1 := rdN_size (r := q5 u) (n := 1) (by have := b0.1; unfold q6 at this; exact this)
  have b2 := rdN_size (r := q4 u) (n := 1) (by have := b1.1; unfold q5 at this; exact this)
  have b3 := rdN_size (r := q3 u) (n := 4) (by have := b2.1; unfold q4 at this; exact this)
  have b4 := rdN_size (r := q2 u) (n := 4) (by have := b3.1; unfold q3 at this; exact this)
  have b5 := rdN_size (r := q1 u) (n := 4) (by have := b4.1; unfold q2 at this; exact this)
  have b6 := rdN_size (r := (u, false)) (n := 4) (by have := b5.1; unfold q1 at this; exact this)
  have c0 := b0.2
  have c1 := b1.2
  have c2 := b2.2
  have c3 := b3.2
  have c4 := b4.2
  have c5 := b5.2
  have c6 := b6.2
  change (q5 u).1.size = 1 + (q6 u).1.size at c1
  change (q4 u).1.size = 1 + (q5 u).1.size at c2
  change (q3 u).1.size = 4 + (q4 u).1.size at c3
  change (q2 u).1.size = 4 + (q3 u).1.size at c4
  change (q1 u).1.size = 4 + (q2 u).1.size at c5
  change u.size = 4 + (q1 u).1.size at c6
  omega

/-- The count of blocks stands at a place of its own. -/
theorem qn_at (l : List UInt8) (h : 18 ≤ l.length) : qn (ofL l) = valN ((l.drop 17).take 1) := by
  have e : l = l.take 4 ++ ((l.drop 4).take 4 ++ ((l.drop 8).take 4 ++ ((l.drop 12).take 4 ++ ((l.drop 16).take 1 ++ ((l.drop 17).take 1 ++ l.drop 18))))) := by
    have s1 : l.drop 17 = (l.drop 17).take 1 ++ l.drop 18 := by
      have := List.take_append_drop 1 (l.drop 17)
      rw [List.drop_drop] at this
      exact this.symm
    have s2 : l.drop 16 = (l.drop 16).take 1 ++ l.drop 17 := by
      have := List.take_append_drop 1 (l.drop 16)
      rw [List.drop_drop] at this
      exact this.symm
    have s3 : l.drop 12 = (l.drop 12).take 4 ++ l.drop 16 := by
      have := List.take_append_drop 4 (l.drop 12)
      rw [List.drop_drop] at this
      exact this.symm
    have s4 : l.drop 8 = (l.drop 8).take 4 ++ l.drop 12 := by
      have := List.take_append_drop 4 (l.drop 8)
      rw [List.drop_drop] at this
      exact this.symm
    have s5 : l.drop 4 = (l.drop 4).take 4 ++ l.drop 8 := by
      have := List.take_append_drop 4 (l.drop 4)
      rw [List.drop_drop] at this
      exact this.symm
    rw [← s1, ← s2, ← s3, ← s4, ← s5, List.take_append_drop]
  have hq : q5 (ofL l) = (ofL ((l.drop 17).take 1 ++ l.drop 18), false) := by
    unfold q5 q4 q3 q2 q1
    conv => lhs; rw [e]
    rw [rdN_app _ _ _ 4 (by simp; omega), rdN_app _ _ _ 4 (by simp; omega), rdN_app _ _ _ 4 (by simp; omega), rdN_app _ _ _ 4 (by simp; omega), rdN_app _ _ _ 1 (by simp; omega)]
  unfold qn
  rw [hq, rdT_app _ _ 1 (by simp; omega), ofL_list]

/-- Of a first part of a stream it does not end where it must. -/
theorem q_cut (f t m nb : Int) (l : List (Int × B4)) (hl : l.length < 256) (k : Nat) (hk : k < (bodyT f t m nb l).length) (rest : List UInt8) : ¬ ((qe (ofL ((bodyT f t m nb l ++ rest).take k))).2 = false ∧ (qe (ofL ((bodyT f t m nb l ++ rest).take k))).1.size = 0) := by
  rintro ⟨h1, h2⟩
  have h3 := qe_size h1 h2
  have hb : (bodyT f t m nb l).length = 18 + 5 * l.length := by
    rw [body_split]
    simp only [List.length_append, blT_len, B4.list', List.length_cons, List.length_nil]
    omega
  have hlen : ((bodyT f t m nb l ++ rest).take k).length = k := by
    rw [List.length_take, List.length_append]
    omega
  rw [ofL_size, hlen] at h3
  have hn := qn_at ((bodyT f t m nb l ++ rest).take k) (by omega)
  have hn2 : valN ((((bodyT f t m nb l ++ rest).take k).drop 17).take 1) = l.length := by
    have e : (((bodyT f t m nb l ++ rest).take k).drop 17).take 1 = [byt (l.length : Int)] := by
      rw [List.take_append_of_le_length (by omega), List.drop_take, List.take_take, Nat.min_eq_left (by omega), body_split]
      simp [B4.list']
    rw [e]
    have := val1 (l.length : Int) ⟨by omega, by omega⟩
    omega
  rw [hn2] at hn
  rw [hn] at h3
  omega

theorem beq_no {a b : ByteArray} (h : a.data.toList ≠ b.data.toList) : (a.toList == b.toList) = false := by
  rw [ByteArray.toList_eq, ByteArray.toList_eq]
  simpa using h
theorem beq_yes {a b : ByteArray} (h : a.data.toList = b.data.toList) : (a.toList == b.toList) = true := by
  rw [ByteArray.toList_eq, ByteArray.toList_eq, h]
  simp
theorem list'_inj {x y : B4} (h : x.list' = y.list') : x = y := by
  cases x
  cases y
  simp [B4.list'] at h
  simp [h]
theorem ba_list (x : B4) : x.ba.data.toList = x.list' := rfl

theorem parts (bd ck : List UInt8) (h : ck.length = 4) : ckAt (ofL (bd ++ ck)) = bd.length ∧ ((ofL (bd ++ ck)).extract (ckAt (ofL (bd ++ ck))) (ofL (bd ++ ck)).size) = ofL ck ∧ (ofL (bd ++ ck)).extract 0 (ckAt (ofL (bd ++ ck))) = ofL bd := by
  have e : ckAt (ofL (bd ++ ck)) = bd.length := by
    unfold ckAt
    rw [ofL_size, List.length_append]
    omega
  refine ⟨e, ?_, ?_⟩
  · rw [e]
    refine ofL_ext ?_
    rw [ext_list, ofL_list, ofL_list, List.drop_left, ofL_size, List.length_append]
    exact List.take_of_length_le (by omega)
  · rw [e]
    refine ofL_ext ?_
    rw [ext_list, ofL_list, ofL_list, List.drop_zero, Nat.sub_zero, List.take_left]

theorem check_yes (bd : List UInt8) : (((ofL (bd ++ (chk bd).list')).extract (ckAt (ofL (bd ++ (chk bd).list'))) (ofL (bd ++ (chk bd).list')).size).toList == (chk ((ofL (bd ++ (chk bd).list')).extract 0 (ckAt (ofL (bd ++ (chk bd).list')))).data.toList).ba.toList) = true := by
  obtain ⟨_, h2, h3⟩ := parts bd (chk bd).list' rfl
  rw [h2, h3]
  refine beq_yes ?_
  rw [ofL_list, ofL_list]
  rfl

/-- One turned byte is found out. -/
theorem check_turned (bd : List UInt8) (k : Nat) (y : UInt8) (hk : k < (bd ++ (chk bd).list').length) (hy : y ≠ (bd ++ (chk bd).list')[k]) (t : ByteArray) (ht : t = ofL ((bd ++ (chk bd).list').set k y)) :
    ((t.extract (ckAt t) t.size).toList == (chk (t.extract 0 (ckAt t)).data.toList).ba.toList) = false := by
  subst ht
  rw [List.set_append]
  by_cases hlt : k < bd.length
  · rw [if_pos hlt]
    rw [List.getElem_append_left hlt] at hy
    obtain ⟨_, h2, h3⟩ := parts (bd.set k y) (chk bd).list' rfl
    rw [h2, h3]
    refine beq_no ?_
    rw [ofL_list, ofL_list, ba_list]
    exact fun e => chk_ne (fnv_set bd k y hlt hy) (list'_inj e).symm
  · rw [if_neg hlt]
    rw [List.getElem_append_right (by omega)] at hy
    obtain ⟨_, h2, h3⟩ := parts bd ((chk bd).list'.set (k - bd.length) y) (by rw [List.length_set]; rfl)
    rw [h2, h3]
    refine beq_no ?_
    rw [ofL_list, ofL_list, ba_list]
    intro e
    rw [List.length_append] at hk
    have h4 : (((chk bd).list'.set (k - bd.length) y))[k - bd.length]? = (chk bd).list'[k - bd.length]? := by rw [e]
    rw [List.getElem?_set_self (by omega), List.getElem?_eq_getElem (by omega)] at h4
    exact hy (by simpa using h4)

/-- A first part of a stream: its check is not right, or it does not end where it must. -/
theorem check_cut (f t m nb : Int) (l : List (Int × B4)) (hl : l.length < 256) (k : Nat) (hk : k < (bodyT f t m nb l ++ (chk (bodyT f t m nb l)).list').length) (x : ByteArray) (hx : x = ofL ((bodyT f t m nb l ++ (chk (bodyT f t m nb l)).list').take k)) :
    ((x.extract (ckAt x) x.size).toList == (chk (x.extract 0 (ckAt x)).data.toList).ba.toList) = false ∨ (5 ≤ x.size ∧ ¬ ((qe (x.extract 0 (ckAt x))).2 = false ∧ (qe (x.extract 0 (ckAt x))).1.size = 0)) := by
  have hc4 : (chk (bodyT f t m nb l)).list'.length = 4 := rfl
  rw [List.length_append, hc4] at hk
  have hb : (bodyT f t m nb l).length = 18 + 5 * l.length := by
    rw [body_split]
    simp only [List.length_append, blT_len, B4.list', List.length_cons, List.length_nil]
    omega
  have hsz : x.size = k := by
    rw [hx, ofL_size, List.length_take, List.length_append, hc4]
    omega
  by_cases h5 : 5 ≤ k
  · right
    refine ⟨by omega, ?_⟩
    have e : x.extract 0 (ckAt x) = ofL ((bodyT f t m nb l ++ (chk (bodyT f t m nb l)).list').take (k - 4)) := by
      refine ofL_ext ?_
      unfold ckAt
      rw [hsz, ext_list, hx, ofL_list, ofL_list, List.drop_zero, Nat.sub_zero, List.take_take, Nat.min_eq_left (by omega)]
    rw [e]
    exact q_cut f t m nb l hl (k - 4) (by omega) _
  · left
    have e0 : ckAt x = 0 := by
      unfold ckAt
      omega
    rw [e0]
    refine beq_no ?_
    rw [ext_list, ext_list, hx, ofL_list, ba_list, ofL_size]
    simp only [List.drop_zero, Nat.sub_zero, List.take_zero]
    rw [body_split]
    rcases (by omega : k = 0 ∨ k = 1 ∨ k = 2 ∨ k = 3 ∨ k = 4) with rfl | rfl | rfl | rfl | rfl
    · simp [B4.list']
    · simp [B4.list']
    · simp [B4.list']
    · simp [B4.list']
    · simp [B4.list', chk, fnv, n4, byt]
end Go.Proofs.YthdhegmlknpllaaGreat
