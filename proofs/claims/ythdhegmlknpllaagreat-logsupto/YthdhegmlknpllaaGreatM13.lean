import Derived.Test.YthdhegmlknpllaaGreatM06
import Derived.Test.YthdhegmlknpllaaGreatM12
namespace Go.Proofs.YthdhegmlknpllaaGreat
open Go.RowKit Go.Maps Go.MuLone
structure RSh where
 guid : Int
 time : Int
 holds : Int
 came : Int
 dat : List ByteArray
 born : List Int
def datC (l : List ByteArray) : List Value := l.map Value.string
def bornC (l : List Int) : List Value := l.map (Value.int .i64)
def RSh.cells (x : RSh) : List Value := [.int .i64 x.guid, .int .i64 x.time, .int .i64 x.holds, .int .i64 x.came] ++ (datC x.dat ++ bornC x.born)
def RSh.wf (x : RSh) : Prop := x.dat.length = 16 ∧ x.born.length = 16
def rshC (l : List RSh) : List Value := l.flatMap RSh.cells
structure RSto where
 id : Int
 blocks : Nat
 now : Int
 last : Int
 dat : List ByteArray
 born : List Int
 sh : List RSh
 ms : List (Int × Int)
 sv : Value
 mv : Value
def RSto.cells (s : RSto) : List Value := [.int .i64 s.id, .int .i64 s.blocks, .int .i64 s.now, .int .i64 s.last] ++ (datC s.dat ++ (bornC s.born ++ [s.sv, s.mv]))
structure RRep (B : Nat) (w : World) (b : Nat) (s : RSto) : Prop where
 blk : w.heap[b]? = some (.cells s.cells.toArray 86 (0, 0))
 d16 : s.dat.length = 16
 b16 : s.born.length = 16
 wf : ∀ x ∈ s.sh, x.wf
 sh : w.ownsRow B 117 36 s.sv s.sh.length (rshC s.sh)
 ms : w.ownsRow B 129 2 s.mv s.ms.length (mkC s.ms)
 hb : B ≤ b
def rfoot (b : Nat) (s : RSto) : List Nat := [b] ++ s.sv.ownBlock.toList ++ s.mv.ownBlock.toList
theorem RRep.lt {B : Nat} {w : World} {b : Nat} {s : RSto} (h : RRep B w b s) : ∀ k ∈ rfoot b s, B ≤ k ∧ k < w.heap.size := by
 intro k hk
 simp only [rfoot, List.mem_append, List.mem_cons, List.not_mem_nil, or_false, Option.mem_toList] at hk
 rcases hk with (rfl | h1) | h1
 · exact ⟨h.hb, (Array.getElem?_eq_some_iff.1 h.blk).1⟩
 · exact h.sh.lt k h1
 · exact h.ms.lt k h1
theorem RRep.of_foot {B : Nat} {w w' : World} {b : Nat} {s : RSto} (h : RRep B w b s) (he : ∀ k ∈ rfoot b s, w'.heap[k]? = w.heap[k]?) : RRep B w' b s := by
 refine ⟨?_, h.d16, h.b16, h.wf, ?_, ?_, h.hb⟩
 · rw [he b (by simp [rfoot])]; exact h.blk
 · exact own_of_block h.sh (fun k hk => he k (by simp [rfoot, hk]))
 · exact own_of_block h.ms (fun k hk => he k (by simp [rfoot, hk]))
theorem RRep.kept {B : Nat} {w w' : World} {b : Nat} {s : RSto} {F : List Nat} (h : RRep B w b s) (hf : Fr F w w') (hn : ∀ k ∈ rfoot b s, k ∉ F) : RRep B w' b s :=
 h.of_foot fun k hk => hf.block k (h.lt k hk).2 (hn k hk)
theorem RRep.kept0 {B : Nat} {w w' : World} {b : Nat} {s : RSto} (h : RRep B w b s) (hf : Fr [] w w') : RRep B w' b s := h.kept hf (by simp)
theorem RRep.apart {B : Nat} {w : World} {b : Nat} {s : RSto} (h : RRep B w b s) : (∀ k, s.sv.ownBlock = some k → k ≠ b ∧ s.mv.ownBlock ≠ some k) ∧ (∀ k, s.mv.ownBlock = some k → k ≠ b) := by
 have h2 := h.blk
 refine ⟨fun k hk => ⟨fun e => ?_, fun e => ?_⟩, fun k hk e => ?_⟩
 · obtain ⟨_, cur, h4⟩ := own_tag h.sh hk
   rw [e, h2] at h4; simp at h4
 · obtain ⟨_, cur, h4⟩ := own_tag h.sh hk
   obtain ⟨_, cur', h5⟩ := own_tag h.ms e
   rw [h4] at h5; simp at h5
 · obtain ⟨_, cur, h4⟩ := own_tag h.ms hk
   rw [e, h2] at h4; simp at h4
theorem cells_dat (s : RSto) (hd : s.dat.length = 16) (k : Nat) (hk : k < 16) : s.cells[4 + k]? = some (.string (s.dat[k]'(by omega))) := by
 unfold RSto.cells
 rw [List.getElem?_append_right (by simp), show 4 + k - [Value.int .i64 s.id, .int .i64 s.blocks, .int .i64 s.now, .int .i64 s.last].length = k by simp, List.getElem?_append_left (by simp [datC, hd]; exact hk)]
 simp [datC, hd, hk]
theorem cells_born (s : RSto) (hd : s.dat.length = 16) (hb : s.born.length = 16) (k : Nat) (hk : k < 16) : s.cells[20 + k]? = some (.int .i64 (s.born[k]'(by omega))) := by
 unfold RSto.cells
 rw [List.getElem?_append_right (by simp; omega), show 20 + k - [Value.int .i64 s.id, .int .i64 s.blocks, .int .i64 s.now, .int .i64 s.last].length = 16 + k by simp; omega, List.getElem?_append_right (by simp [datC, hd]), show 16 + k - (datC s.dat).length = k by simp [datC, hd], List.getElem?_append_left (by simp [bornC, hb]; exact hk)]
 simp [bornC, hb, hk]
theorem cells_end (s : RSto) (hd : s.dat.length = 16) (hb : s.born.length = 16) : s.cells[36]? = some s.sv ∧ s.cells[37]? = some s.mv := by
 have e : ∀ j, s.cells[36 + j]? = [s.sv, s.mv][j]? := fun j => by
  unfold RSto.cells
  rw [List.getElem?_append_right (by simp; omega), show 36 + j - [Value.int .i64 s.id, .int .i64 s.blocks, .int .i64 s.now, .int .i64 s.last].length = 32 + j by simp; omega, List.getElem?_append_right (by simp [datC, hd]; omega), show 32 + j - (datC s.dat).length = 16 + j by simp [datC, hd]; omega, List.getElem?_append_right (by simp [bornC, hb]), show 16 + j - (bornC s.born).length = j by simp [bornC, hb]]
 exact ⟨e 0, e 1⟩
theorem RRep.cells {B : Nat} {w : World} {b : Nat} {s : RSto} (h : RRep B w b s) :
  w.cell? ⟨b, 0, none⟩ = some (.int .i64 s.id) ∧ w.cell? ⟨b, 1, none⟩ = some (.int .i64 s.blocks) ∧ w.cell? ⟨b, 2, none⟩ = some (.int .i64 s.now) ∧ w.cell? ⟨b, 3, none⟩ = some (.int .i64 s.last) ∧ w.cell? ⟨b, 36, none⟩ = some s.sv ∧ w.cell? ⟨b, 37, none⟩ = some s.mv := by
 have e := cells_end s h.d16 h.b16
 refine ⟨?_, ?_, ?_, ?_, ?_, ?_⟩ <;> rw [cell_of h.blk, List.getElem?_toArray]
 · rfl
 · rfl
 · rfl
 · rfl
 · exact e.1
 · exact e.2
theorem RRep.frozen {B : Nat} {w : World} {b : Nat} {s : RSto} (h : RRep B w b s) (j : Nat) : w.frozen? ⟨b, j, none⟩ = false := froz_of h.blk j
theorem RRep.dat {B : Nat} {w : World} {b : Nat} {s : RSto} (h : RRep B w b s) (k : Nat) (hk : k < 16) : w.cell? ⟨b, 4 + k, none⟩ = some (.string (s.dat[k]'(by rw [h.d16]; exact hk))) := by
 rw [cell_of h.blk, List.getElem?_toArray]; exact cells_dat s h.d16 k hk
theorem RRep.bornAt {B : Nat} {w : World} {b : Nat} {s : RSto} (h : RRep B w b s) (k : Nat) (hk : k < 16) : w.cell? ⟨b, 20 + k, none⟩ = some (.int .i64 (s.born[k]'(by rw [h.b16]; exact hk))) := by
 rw [cell_of h.blk, List.getElem?_toArray]; exact cells_born s h.d16 h.b16 k hk
theorem flat_getw {α : Type} {f : α → List Value} {k : Nat} : ∀ (l : List α) (_ : ∀ x ∈ l, (f x).length = k) (i : Nat) (h : i < l.length) (j : Nat), j < k → (l.flatMap f)[i * k + j]? = (f l[i])[j]?
 | [], _, i, h, _, _ => by simp at h
 | x :: r, hf, 0, _, j, hj => by
  simp only [List.flatMap_cons, Nat.zero_mul, Nat.zero_add, List.getElem_cons_zero]
  rw [List.getElem?_append_left (by rw [hf x (by simp)]; exact hj)]
 | x :: r, hf, i + 1, h, j, hj => by
  simp only [List.flatMap_cons, List.getElem_cons_succ]
  rw [List.getElem?_append_right (by rw [hf x (by simp), Nat.add_mul]; omega), hf x (by simp), show (i + 1) * k + j - k = i * k + j by rw [Nat.add_mul]; omega]
  exact flat_getw r (fun y hy => hf y (by simp [hy])) i (by simpa using h) j hj
theorem rsh_len {x : RSh} (h : x.wf) : x.cells.length = 36 := by simp [RSh.cells, datC, bornC, h.1, h.2]
theorem RRep.shotC {B : Nat} {w : World} {b : Nat} {s : RSto} (h : RRep B w b s) {gg cap : Nat} (hsv : s.sv = .slice (some ⟨gg, 0, none⟩) s.sh.length cap) (i : Nat) (hi : i < s.sh.length) (j : Nat) (hj : j < 36) : w.cell? ⟨gg, i * 36 + j, none⟩ = (s.sh[i].cells)[j]? := by
 have ho := h.sh
 rw [hsv] at ho
 obtain ⟨g', e', _, hc⟩ := own_addr ho (by omega)
 have : g' = gg := by simpa using e'.symm
 subst this
 rw [hc _ (by omega)]
 exact flat_getw s.sh (fun x hx => rsh_len (h.wf x hx)) i hi j hj
set_option maxHeartbeats 1000000 in
theorem rshot_any (B b : Nat) (s : RSto) (g : Int) (w : World) (h : RRep B w b s) (hl : s.sh.length ≤ 1000000) :
  Calls Tryz.prog 66 #[.pointer (some ⟨b, 0, none⟩), .int .i64 g] w fun e w' => e = .returned (.int .i64 (fi (fun x : RSh => x.guid == g) 0 s.sh)) ∧ w' = w := by
 obtain ⟨ao, cap, hsv⟩ := own_shape h.sh
 obtain ⟨r, hr⟩ : ∃ r, fi (fun x : RSh => x.guid == g) 0 s.sh = r := ⟨_, rfl⟩
 rw [hr]
 have HR : Hid (fi (fun x : RSh => x.guid == g) 0 (s.sh.drop 0) = r) := hr
 have HO : Hid (RRep B w b s ∧ s.sv = .slice ao s.sh.length cap) := ⟨h, hsv⟩
 have c36 : w.cell? ⟨b, 36, none⟩ = some (.slice ao s.sh.length cap) := by rw [← hsv]; exact h.cells.2.2.2.2.1
 obtain ⟨n, hn⟩ : ∃ n, s.sh.length = n := ⟨_, rfl⟩
 have HN : Hid (s.sh.length = n) := hn
 rw [hn] at c36 hl
 clear hr h hsv hn
 go_enter Tryz.func66, Tryz.ntmps66
 go_wp2
 go_loop [5] (fun i => ∃ k : Nat, k ≤ n ∧ i = .int .i64 k ∧ Hid (fi (fun x : RSh => x.guid == g) k (s.sh.drop k) = r)) (fun i => n - (intOf i).toNat)
 case atStart => exact ⟨0, Nat.zero_le _, rfl, HR⟩
 case round =>
  obtain ⟨k, hk, rfl, HK⟩ := hrel
  clear HR
  by_cases hlt : k < n
  · have hlt' : k < s.sh.length := by rw [HN.out]; exact hlt
    have H := HK.out
    rw [List.drop_eq_getElem_cons hlt', fi] at H
    have ho := HO.out.1.sh
    rw [HO.out.2] at ho
    obtain ⟨gg, hgg, hcap, hcc⟩ := own_addr ho (by omega)
    subst hgg
    have d0 := HO.out.1.shotC HO.out.2 k hlt' 0 (by omega)
    obtain ⟨x, hx⟩ : ∃ x, s.sh[k] = x := ⟨_, rfl⟩
    rw [hx] at d0 H
    have d0' : w.cell? ⟨gg, k * 36, none⟩ = some (.int .i64 x.guid) := d0
    rw [HN.out] at hcap
    have hltz : (k : Int) < (n : Int) := by omega
    clear HK hx d0 ho hcc
    cases hp : (x.guid == g)
    · have HH : Hid (fi (fun x : RSh => x.guid == g) (k + 1) (s.sh.drop (k + 1)) = r) := by show _ = _; simpa [hp] using H
      clear H
      go_wp2
      go_round
      case rel => exact ⟨k + 1, by omega, by go_num, HH⟩
      case measure => simp [intOf]; omega
    · have HH : Hid ((k : Int) = r) := by show _ = _; simpa [hp] using H
      clear H
      go_wp2
      go_ret
      exact ⟨ret_int HH.out, rfl⟩
  · have hkk : k = n := by omega
    have HH : Hid ((-1 : Int) = r) := by have := HK.out; rw [hkk, ← HN.out] at this; show _ = _; simpa [fi] using this
    clear HK
    subst hkk
    go_wp2
    go_ret
    exact ⟨ret_int HH.out, rfl⟩
set_option maxHeartbeats 1000000 in
theorem rmark_any (B b : Nat) (s : RSto) (g : Int) (w : World) (h : RRep B w b s) (hl : s.ms.length ≤ 1000000) :
  Calls Tryz.prog 72 #[.pointer (some ⟨b, 0, none⟩), .int .i64 g] w fun e w' => e = .returned (.int .i64 (fi (fun x : Int × Int => x.1 == g) 0 s.ms)) ∧ w' = w := by
 obtain ⟨ao, cap, hsv⟩ := own_shape h.ms
 obtain ⟨r, hr⟩ : ∃ r, fi (fun x : Int × Int => x.1 == g) 0 s.ms = r := ⟨_, rfl⟩
 rw [hr]
 have HR : Hid (fi (fun x : Int × Int => x.1 == g) 0 (s.ms.drop 0) = r) := hr
 have HO : Hid (RRep B w b s ∧ s.mv = .slice ao s.ms.length cap) := ⟨h, hsv⟩
 have c37 : w.cell? ⟨b, 37, none⟩ = some (.slice ao s.ms.length cap) := by rw [← hsv]; exact h.cells.2.2.2.2.2
 obtain ⟨n, hn⟩ : ∃ n, s.ms.length = n := ⟨_, rfl⟩
 have HN : Hid (s.ms.length = n) := hn
 rw [hn] at c37 hl
 clear hr h hsv hn
 go_enter Tryz.func72, Tryz.ntmps72
 go_wp2
 go_loop [5] (fun i => ∃ k : Nat, k ≤ n ∧ i = .int .i64 k ∧ Hid (fi (fun x : Int × Int => x.1 == g) k (s.ms.drop k) = r)) (fun i => n - (intOf i).toNat)
 case atStart => exact ⟨0, Nat.zero_le _, rfl, HR⟩
 case round =>
  obtain ⟨k, hk, rfl, HK⟩ := hrel
  clear HR
  by_cases hlt : k < n
  · have hlt' : k < s.ms.length := by rw [HN.out]; exact hlt
    have H := HK.out
    rw [List.drop_eq_getElem_cons hlt', fi] at H
    have ho := HO.out.1.ms
    rw [HO.out.2] at ho
    obtain ⟨gg, hgg, hcap, hcc⟩ := own_addr ho (by omega)
    subst hgg
    have d0 := hcc (k * 2) (by omega)
    rw [(mkC_get s.ms k hlt').1] at d0
    obtain ⟨x, hx⟩ : ∃ x, s.ms[k] = x := ⟨_, rfl⟩
    rw [hx] at d0 H
    have d0' : w.cell? ⟨gg, k * 2, none⟩ = some (.int .i64 x.1) := d0
    rw [HN.out] at hcap
    have hltz : (k : Int) < (n : Int) := by omega
    clear HK hx d0 ho hcc
    cases hp : (x.1 == g)
    · have HH : Hid (fi (fun x : Int × Int => x.1 == g) (k + 1) (s.ms.drop (k + 1)) = r) := by show _ = _; simpa [hp] using H
      clear H
      go_wp2
      go_round
      case rel => exact ⟨k + 1, by omega, by go_num, HH⟩
      case measure => simp [intOf]; omega
    · have HH : Hid ((k : Int) = r) := by show _ = _; simpa [hp] using H
      clear H
      go_wp2
      go_ret
      exact ⟨ret_int HH.out, rfl⟩
  · have hkk : k = n := by omega
    have HH : Hid ((-1 : Int) = r) := by have := HK.out; rw [hkk, ← HN.out] at this; show _ = _; simpa [fi] using this
    clear HK
    subst hkk
    go_wp2
    go_ret
    exact ⟨ret_int HH.out, rfl⟩
set_option maxHeartbeats 400000 in
theorem rhas_any (B b : Nat) (s : RSto) (g : Int) (w : World) (h : RRep B w b s) (hl : s.sh.length ≤ 1000000) (hm : s.ms.length ≤ 1000000) :
  Calls Tryz.prog 64 #[.pointer (some ⟨b, 0, none⟩), .int .i64 g] w fun e w' => e = .returned (.bool (s.sh.any (fun x => x.guid == g) || s.ms.any (fun x => x.1 == g))) ∧ w' = w := by
 have H1 := rshot_any B b s g w h hl
 have H2 := rmark_any B b s g w h hm
 rw [← fi_dec (fun x : RSh => x.guid == g) s.sh, ← fi_dec (fun x : Int × Int => x.1 == g) s.ms]
 obtain ⟨p, hp⟩ : ∃ p, fi (fun x : RSh => x.guid == g) 0 s.sh = p := ⟨_, rfl⟩
 obtain ⟨q, hq⟩ : ∃ q, fi (fun x : Int × Int => x.1 == g) 0 s.ms = q := ⟨_, rfl⟩
 rw [hp] at H1 ⊢
 rw [hq] at H2 ⊢
 clear h hp hq
 by_cases h0 : 0 ≤ p
 · go_enter Tryz.func64, Tryz.ntmps64
   go_wp2_with (first
    | (go_at_call 66; refine H1.mono ?_; rintro e w' ⟨rfl, hw'⟩; have hw' := hw'.symm; subst hw')
    | (go_at_call 72; refine H2.mono ?_; rintro e w' ⟨rfl, hw'⟩; have hw' := hw'.symm; subst hw'))
   go_ret
   exact ⟨ret_bool (by simp [h0]), rfl⟩
 · go_enter Tryz.func64, Tryz.ntmps64
   go_wp2_with (first
    | (go_at_call 66; refine H1.mono ?_; rintro e w' ⟨rfl, hw'⟩; have hw' := hw'.symm; subst hw')
    | (go_at_call 72; refine H2.mono ?_; rintro e w' ⟨rfl, hw'⟩; have hw' := hw'.symm; subst hw'))
   go_ret
   exact ⟨ret_bool (by simp), rfl⟩
set_option maxHeartbeats 400000 in
theorem rread_ok (B b : Nat) (s : RSto) (k : Nat) (w : World) (h : RRep B w b s) (hk : k < s.blocks) (hb : s.blocks ≤ 16) :
  Calls Tryz.prog 28 #[.pointer (some ⟨b, 0, none⟩), .int .i64 k] w fun e w' => e = .returned (.tuple #[.string (s.dat[k]'(by rw [h.d16]; omega)), .int .i64 0]) ∧ w' = w := by
 obtain ⟨c0, c1, c2, c3, c36, c37⟩ := h.cells
 have d1 := h.dat k (by omega)
 obtain ⟨x, hx⟩ : ∃ x, (s.dat[k]'(by rw [h.d16]; omega)) = x := ⟨_, rfl⟩
 rw [hx] at d1 ⊢
 obtain ⟨n, hn⟩ : ∃ n, s.blocks = n := ⟨_, rfl⟩
 rw [hn] at c1 hk hb
 have k0 : (k : Int) < 16 := by omega
 have k1 : ¬ ((n : Int) ≤ (k : Int)) := by omega
 clear h c0 c2 c3 c36 c37 hx hn
 go_enter Tryz.func28, Tryz.ntmps28
 go_wp2
 go_ret2
 exact ⟨rfl, rfl⟩
set_option maxHeartbeats 400000 in
theorem rread_bad (B b : Nat) (s : RSto) (k : Int) (w : World) (h : RRep B w b s) (hk : (decide (0 ≤ k) && decide (k < s.blocks)) = false) :
  Calls Tryz.prog 28 #[.pointer (some ⟨b, 0, none⟩), .int .i64 k] w fun e w' => e = .returned (.tuple #[.string ⟨#[]⟩, .int .i64 1]) ∧ w' = w := by
 obtain ⟨c0, c1, c2, c3, c36, c37⟩ := h.cells
 obtain ⟨n, hn⟩ : ∃ n, s.blocks = n := ⟨_, rfl⟩
 rw [hn] at c1 hk
 clear h c0 c2 c3 c36 c37 hn
 by_cases h0 : k < 0
 · go_enter Tryz.func28, Tryz.ntmps28
   go_wp2
   go_ret2
   exact ⟨rfl, rfl⟩
 · have h1 : (n : Int) ≤ k := by
     simp at hk
     omega
   clear hk
   go_enter Tryz.func28, Tryz.ntmps28
   go_wp2
   go_ret2
   exact ⟨rfl, rfl⟩
set_option maxRecDepth 100000 in
set_option maxHeartbeats 1600000 in
theorem accepts_base (B b : Nat) (q : Int) (s : Sto) (f t m : Int) (v : Value) (w : World) (h : Rep B w b q s) (hl : s.ss.length ≤ 12) (hm : s.ms.length ≤ 12) (hv : ∃ a n c, v = .slice a n c) (hf : fi (fun y : Sn => y.guid == t) 0 s.ss = -1) (hf2 : fi (fun y : Int × Int => y.1 == t) 0 s.ms = -1) (hlast : f ≠ lastG s.ss) :
  Calls Tryz.prog 80 #[.pointer (some ⟨b, 0, none⟩), .agg #[.int .i64 f, .int .i64 t, .int .i64 m, .int .i64 s.vol.length, v]] w fun e w' => e = .returned (.int .i64 6) ∧ Fr [] w w' := by
 obtain ⟨va, vn, vc, rfl⟩ := hv
 obtain ⟨bx, hbx⟩ : ∃ bx, w.heap.size = bx := ⟨_, rfl⟩
 obtain ⟨w0, hw0⟩ : ∃ w0, w.alloc (.cells #[.int .i64 f, .int .i64 t, .int .i64 m, .int .i64 s.vol.length, .slice va vn vc] 135) = w0 := ⟨_, rfl⟩
 have b0 : w0.heap[bx]? = some (.cells #[.int .i64 f, .int .i64 t, .int .i64 m, .int .i64 s.vol.length, .slice va vn vc] 135 (0, 0)) := by rw [← hw0, ← hbx]; exact heap_alloc_new w _
 have F0 : Fr [] w w0 := by rw [← hw0]; exact (Fr.refl _ _).alloc _
 have R0 : Rep B w0 b q s := h.kept0 F0
 have HB : Hid (w0.heap[bx]? = some (.cells #[.int .i64 f, .int .i64 t, .int .i64 m, .int .i64 s.vol.length, .slice va vn vc] 135 (0, 0)) ∧ Fr [] w w0 ∧ Rep B w0 b q s ∧ bx < w0.heap.size) := ⟨b0, F0, R0, (Array.getElem?_eq_some_iff.1 b0).1⟩
 have HX : Hid (∀ W, Fr [] w0 W → W.cell? ⟨bx, 0, none⟩ = some (.int .i64 f) ∧ W.cell? ⟨bx, 1, none⟩ = some (.int .i64 t)) := fun W hW => by
  have hh : W.heap[bx]? = _ := (hW.block bx (Array.getElem?_eq_some_iff.1 b0).1 (by simp)).trans b0
  exact ⟨by rw [cell_of hh]; rfl, by rw [cell_of hh]; rfl⟩
 have e1 : w0.cell? ⟨bx, 1, none⟩ = some (.int .i64 t) := (HX.out w0 (Fr.refl _ _)).2
 have e3 : w0.cell? ⟨bx, 3, none⟩ = some (.int .i64 s.vol.length) := by rw [cell_of b0]; rfl
 have c3 : w0.cell? ⟨b, 3, none⟩ = some (.slice (some ⟨s.vb, 0, none⟩) s.vol.length s.vol.length) := R0.cells.2.2.1
 obtain ⟨sa, sc, hsv⟩ := own_shape h.ss
 have HV : Hid (s.sv = .slice sa s.ss.length sc) := hsv
 have hw0' := hw0
 have HS : Hid (∀ W, Rep B W b q s → Calls Tryz.prog 65 #[.pointer (some ⟨b, 0, none⟩), .int .i64 t] W fun e w' => e = .returned (.int .i64 (-1)) ∧ Fr [] W w') := fun W hW => by
  have := findSnapshot_any B b q s t W hW (by omega)
  rw [hf] at this
  exact this
 have HM : Hid (∀ W, Rep B W b q s → Calls Tryz.prog 69 #[.pointer (some ⟨b, 0, none⟩), .int .i64 t] W fun e w' => e = .returned (.int .i64 (-1)) ∧ Fr [] W w') := fun W hW => by
  have := findMark_any B b q s t W hW (by omega)
  rw [hf2] at this
  exact this
 obtain ⟨la, hla⟩ : ∃ la, lastG s.ss = la := ⟨_, rfl⟩
 have HLa : Hid (∀ W, Rep B W b q s → Calls Tryz.prog 109 #[.pointer (some ⟨b, 0, none⟩)] W fun e w' => e = .returned (.int .i64 la) ∧ Fr [] W w') := fun W hW => by
  rw [← hla]
  exact last_any B b q s W hW (by omega)
 rw [hla] at hlast
 clear hla
 obtain ⟨nv, hnv⟩ : ∃ nv, s.vol.length = nv := ⟨_, rfl⟩
 rw [hnv] at e3 c3 hw0' HB ⊢
 obtain ⟨ns, hns⟩ : ∃ ns, s.ss.length = ns := ⟨_, rfl⟩
 rw [hns] at hl HV
 have hne : (f == la) = false := by simpa using hlast
 clear h hw0 b0 F0 R0 hsv hf hf2 hnv hlast hns
 go_enter Tryz.func80, Tryz.ntmps80
 go_wp2
 go_region
 go_wp2_with (first
  | (go_at_call 65; refine (HS.out _ (HB.out.2.2.1.kept0 (Fr.refl _ _).drew)).mono ?_; rintro e w2 ⟨rfl, hfr⟩; have HR2 : Hid (Fr [] w0 w2 ∧ Rep B w2 b q s) := ⟨((Fr.refl [] w0).drew).trans hfr (by simp), (HB.out.2.2.1.kept0 (Fr.refl _ _).drew).kept0 hfr⟩; have x2 := (HX.out w2 HR2.out.1).2; clear hfr)
  | (go_at_call 69; refine (HM.out _ HR2.out.2).mono ?_; rintro e w3 ⟨rfl, hfr⟩; have HR3 : Hid (Fr [] w0 w3 ∧ Rep B w3 b q s) := ⟨HR2.out.1.trans hfr (by simp), HR2.out.2.kept0 hfr⟩; clear hfr))
 have dd : w3.drew.cell? ⟨bx, 0, none⟩ = some (.int .i64 f) := (HX.out w3 HR3.out.1).1
 go_region_held3 (fun w' => w'.cell? ⟨bx, 0, none⟩ = some (.int .i64 f))
  (first
   | go_keep
   | exact dd
   | exact (HX.out _ HR4.out.1).1)
  (first
   | (go_at_call 109; refine (HLa.out _ (HR3.out.2.kept0 (Fr.refl _ _).drew)).mono ?_; rintro e w4 ⟨rfl, hfr⟩; have HR4 : Hid (Fr [] w0 w4 ∧ Rep B w4 b q s) := ⟨(HR3.out.1.drew).trans hfr (by simp), (HR3.out.2.kept0 (Fr.refl _ _).drew).kept0 hfr⟩; clear hfr))
 all_goals
  go_wp2
  go_ret
  exact ⟨rfl, HB.out.2.1.trans HR4.out.1 (by simp)⟩
set_option maxRecDepth 100000 in
set_option maxHeartbeats 1600000 in
theorem accepts_full (B b : Nat) (q : Int) (s : Sto) (f t m : Int) (v : Value) (w : World) (h : Rep B w b q s) (hl : s.ss.length ≤ 12) (hm : s.ms.length ≤ 12) (hv : ∃ a n c, v = .slice a n c) (hf : fi (fun y : Sn => y.guid == t) 0 s.ss = -1) (hf2 : fi (fun y : Int × Int => y.1 == t) 0 s.ms = -1) (hlast : f = lastG s.ss) (h12 : s.ss.length = 12) :
  Calls Tryz.prog 80 #[.pointer (some ⟨b, 0, none⟩), .agg #[.int .i64 f, .int .i64 t, .int .i64 m, .int .i64 s.vol.length, v]] w fun e w' => e = .returned (.int .i64 5) ∧ Fr [] w w' := by
 obtain ⟨va, vn, vc, rfl⟩ := hv
 obtain ⟨bx, hbx⟩ : ∃ bx, w.heap.size = bx := ⟨_, rfl⟩
 obtain ⟨w0, hw0⟩ : ∃ w0, w.alloc (.cells #[.int .i64 f, .int .i64 t, .int .i64 m, .int .i64 s.vol.length, .slice va vn vc] 135) = w0 := ⟨_, rfl⟩
 have b0 : w0.heap[bx]? = some (.cells #[.int .i64 f, .int .i64 t, .int .i64 m, .int .i64 s.vol.length, .slice va vn vc] 135 (0, 0)) := by rw [← hw0, ← hbx]; exact heap_alloc_new w _
 have F0 : Fr [] w w0 := by rw [← hw0]; exact (Fr.refl _ _).alloc _
 have R0 : Rep B w0 b q s := h.kept0 F0
 have HB : Hid (w0.heap[bx]? = some (.cells #[.int .i64 f, .int .i64 t, .int .i64 m, .int .i64 s.vol.length, .slice va vn vc] 135 (0, 0)) ∧ Fr [] w w0 ∧ Rep B w0 b q s ∧ bx < w0.heap.size) := ⟨b0, F0, R0, (Array.getElem?_eq_some_iff.1 b0).1⟩
 have HX : Hid (∀ W, Fr [] w0 W → W.cell? ⟨bx, 0, none⟩ = some (.int .i64 f) ∧ W.cell? ⟨bx, 1, none⟩ = some (.int .i64 t)) := fun W hW => by
  have hh : W.heap[bx]? = _ := (hW.block bx (Array.getElem?_eq_some_iff.1 b0).1 (by simp)).trans b0
  exact ⟨by rw [cell_of hh]; rfl, by rw [cell_of hh]; rfl⟩
 have e1 : w0.cell? ⟨bx, 1, none⟩ = some (.int .i64 t) := (HX.out w0 (Fr.refl _ _)).2
 have e3 : w0.cell? ⟨bx, 3, none⟩ = some (.int .i64 s.vol.length) := by rw [cell_of b0]; rfl
 have c3 : w0.cell? ⟨b, 3, none⟩ = some (.slice (some ⟨s.vb, 0, none⟩) s.vol.length s.vol.length) := R0.cells.2.2.1
 obtain ⟨sa, sc, hsv⟩ := own_shape h.ss
 have HV : Hid (s.sv = .slice sa s.ss.length sc) := hsv
 have hw0' := hw0
 have HS : Hid (∀ W, Rep B W b q s → Calls Tryz.prog 65 #[.pointer (some ⟨b, 0, none⟩), .int .i64 t] W fun e w' => e = .returned (.int .i64 (-1)) ∧ Fr [] W w') := fun W hW => by
  have := findSnapshot_any B b q s t W hW (by omega)
  rw [hf] at this
  exact this
 have HM : Hid (∀ W, Rep B W b q s → Calls Tryz.prog 69 #[.pointer (some ⟨b, 0, none⟩), .int .i64 t] W fun e w' => e = .returned (.int .i64 (-1)) ∧ Fr [] W w') := fun W hW => by
  have := findMark_any B b q s t W hW (by omega)
  rw [hf2] at this
  exact this
 obtain ⟨la, hla⟩ : ∃ la, lastG s.ss = la := ⟨_, rfl⟩
 have HLa : Hid (∀ W, Rep B W b q s → Calls Tryz.prog 109 #[.pointer (some ⟨b, 0, none⟩)] W fun e w' => e = .returned (.int .i64 la) ∧ Fr [] W w') := fun W hW => by
  rw [← hla]
  exact last_any B b q s W hW (by omega)
 rw [hla] at hlast
 clear hla
 obtain ⟨nv, hnv⟩ : ∃ nv, s.vol.length = nv := ⟨_, rfl⟩
 rw [hnv] at e3 c3 hw0' HB ⊢
 obtain ⟨ns, hns⟩ : ∃ ns, s.ss.length = ns := ⟨_, rfl⟩
 rw [hns] at hl HV h12
 have hne : (f == la) = true := by simpa using hlast
 have hge : (12 : Int) ≤ (ns : Int) := by omega
 clear h hw0 b0 F0 R0 hsv hf hf2 hnv hlast hns
 go_enter Tryz.func80, Tryz.ntmps80
 go_wp2
 go_region
 go_wp2_with (first
  | (go_at_call 65; refine (HS.out _ (HB.out.2.2.1.kept0 (Fr.refl _ _).drew)).mono ?_; rintro e w2 ⟨rfl, hfr⟩; have HR2 : Hid (Fr [] w0 w2 ∧ Rep B w2 b q s) := ⟨((Fr.refl [] w0).drew).trans hfr (by simp), (HB.out.2.2.1.kept0 (Fr.refl _ _).drew).kept0 hfr⟩; have x2 := (HX.out w2 HR2.out.1).2; clear hfr)
  | (go_at_call 69; refine (HM.out _ HR2.out.2).mono ?_; rintro e w3 ⟨rfl, hfr⟩; have HR3 : Hid (Fr [] w0 w3 ∧ Rep B w3 b q s) := ⟨HR2.out.1.trans hfr (by simp), HR2.out.2.kept0 hfr⟩; clear hfr))
 have dd : w3.drew.cell? ⟨bx, 0, none⟩ = some (.int .i64 f) := (HX.out w3 HR3.out.1).1
 go_region_held3 (fun w' => w'.cell? ⟨bx, 0, none⟩ = some (.int .i64 f))
  (first
   | go_keep
   | exact dd
   | exact (HX.out _ HR4.out.1).1)
  (first
   | (go_at_call 109; refine (HLa.out _ (HR3.out.2.kept0 (Fr.refl _ _).drew)).mono ?_; rintro e w4 ⟨rfl, hfr⟩; have HR4 : Hid (Fr [] w0 w4 ∧ Rep B w4 b q s) := ⟨(HR3.out.1.drew).trans hfr (by simp), (HR3.out.2.kept0 (Fr.refl _ _).drew).kept0 hfr⟩; have c44 : w4.cell? ⟨b, 4, none⟩ = some (.slice sa ns sc) := (by rw [← HV.out]; exact HR4.out.2.cells.2.2.2.1); clear hfr))
 all_goals
  go_wp2
  go_ret
  exact ⟨rfl, HB.out.2.1.trans HR4.out.1 (by simp)⟩
set_option maxRecDepth 100000 in
set_option maxHeartbeats 1600000 in
theorem accepts_dupm (B b : Nat) (q : Int) (s : Sto) (f t m : Int) (v : Value) (w : World) (h : Rep B w b q s) (hl : s.ss.length ≤ 12) (hm : s.ms.length ≤ 12) (hv : ∃ a n c, v = .slice a n c) (hf : fi (fun y : Sn => y.guid == t) 0 s.ss = -1) (j : Nat) (hf2 : fi (fun y : Int × Int => y.1 == t) 0 s.ms = (j : Int)) :
  Calls Tryz.prog 80 #[.pointer (some ⟨b, 0, none⟩), .agg #[.int .i64 f, .int .i64 t, .int .i64 m, .int .i64 s.vol.length, v]] w fun e w' => e = .returned (.int .i64 7) ∧ Fr [] w w' := by
 obtain ⟨va, vn, vc, rfl⟩ := hv
 obtain ⟨bx, hbx⟩ : ∃ bx, w.heap.size = bx := ⟨_, rfl⟩
 obtain ⟨w0, hw0⟩ : ∃ w0, w.alloc (.cells #[.int .i64 f, .int .i64 t, .int .i64 m, .int .i64 s.vol.length, .slice va vn vc] 135) = w0 := ⟨_, rfl⟩
 have b0 : w0.heap[bx]? = some (.cells #[.int .i64 f, .int .i64 t, .int .i64 m, .int .i64 s.vol.length, .slice va vn vc] 135 (0, 0)) := by rw [← hw0, ← hbx]; exact heap_alloc_new w _
 have F0 : Fr [] w w0 := by rw [← hw0]; exact (Fr.refl _ _).alloc _
 have R0 : Rep B w0 b q s := h.kept0 F0
 have HB : Hid (w0.heap[bx]? = some (.cells #[.int .i64 f, .int .i64 t, .int .i64 m, .int .i64 s.vol.length, .slice va vn vc] 135 (0, 0)) ∧ Fr [] w w0 ∧ Rep B w0 b q s ∧ bx < w0.heap.size) := ⟨b0, F0, R0, (Array.getElem?_eq_some_iff.1 b0).1⟩
 have HX : Hid (∀ W, Fr [] w0 W → W.cell? ⟨bx, 0, none⟩ = some (.int .i64 f) ∧ W.cell? ⟨bx, 1, none⟩ = some (.int .i64 t)) := fun W hW => by
  have hh : W.heap[bx]? = _ := (hW.block bx (Array.getElem?_eq_some_iff.1 b0).1 (by simp)).trans b0
  exact ⟨by rw [cell_of hh]; rfl, by rw [cell_of hh]; rfl⟩
 have e1 : w0.cell? ⟨bx, 1, none⟩ = some (.int .i64 t) := (HX.out w0 (Fr.refl _ _)).2
 have e3 : w0.cell? ⟨bx, 3, none⟩ = some (.int .i64 s.vol.length) := by rw [cell_of b0]; rfl
 have c3 : w0.cell? ⟨b, 3, none⟩ = some (.slice (some ⟨s.vb, 0, none⟩) s.vol.length s.vol.length) := R0.cells.2.2.1
 obtain ⟨sa, sc, hsv⟩ := own_shape h.ss
 have HV : Hid (s.sv = .slice sa s.ss.length sc) := hsv
 have hw0' := hw0
 have HS : Hid (∀ W, Rep B W b q s → Calls Tryz.prog 65 #[.pointer (some ⟨b, 0, none⟩), .int .i64 t] W fun e w' => e = .returned (.int .i64 (-1)) ∧ Fr [] W w') := fun W hW => by
  have := findSnapshot_any B b q s t W hW (by omega)
  rw [hf] at this
  exact this
 have HM : Hid (∀ W, Rep B W b q s → Calls Tryz.prog 69 #[.pointer (some ⟨b, 0, none⟩), .int .i64 t] W fun e w' => e = .returned (.int .i64 j) ∧ Fr [] W w') := fun W hW => by
  have := findMark_any B b q s t W hW (by omega)
  rw [hf2] at this
  exact this
 obtain ⟨nv, hnv⟩ : ∃ nv, s.vol.length = nv := ⟨_, rfl⟩
 rw [hnv] at e3 c3 hw0' HB ⊢
 obtain ⟨ns, hns⟩ : ∃ ns, s.ss.length = ns := ⟨_, rfl⟩
 rw [hns] at hl HV
 clear h hw0 b0 F0 R0 hsv hf hf2 hnv hns
 go_enter Tryz.func80, Tryz.ntmps80
 go_wp2
 go_region
 go_wp2_with (first
  | (go_at_call 65; refine (HS.out _ (HB.out.2.2.1.kept0 (Fr.refl _ _).drew)).mono ?_; rintro e w2 ⟨rfl, hfr⟩; have HR2 : Hid (Fr [] w0 w2 ∧ Rep B w2 b q s) := ⟨((Fr.refl [] w0).drew).trans hfr (by simp), (HB.out.2.2.1.kept0 (Fr.refl _ _).drew).kept0 hfr⟩; have x2 := (HX.out w2 HR2.out.1).2; clear hfr)
  | (go_at_call 69; refine (HM.out _ HR2.out.2).mono ?_; rintro e w3 ⟨rfl, hfr⟩; have HR3 : Hid (Fr [] w0 w3 ∧ Rep B w3 b q s) := ⟨HR2.out.1.trans hfr (by simp), HR2.out.2.kept0 hfr⟩; clear hfr))
 go_ret
 exact ⟨rfl, HB.out.2.1.trans HR3.out.1 (by simp)⟩
set_option maxRecDepth 100000 in
set_option maxHeartbeats 1600000 in
theorem accepts_blocks (B b : Nat) (q : Int) (s : Sto) (f t m : Int) (v : Value) (w : World) (h : Rep B w b q s) (hv : ∃ a n c, v = .slice a n c) (nb : Int) (hnb : nb ≠ (s.vol.length : Int)) :
  Calls Tryz.prog 80 #[.pointer (some ⟨b, 0, none⟩), .agg #[.int .i64 f, .int .i64 t, .int .i64 m, .int .i64 nb, v]] w fun e w' => e = .returned (.int .i64 6) ∧ Fr [] w w' := by
 obtain ⟨va, vn, vc, rfl⟩ := hv
 obtain ⟨bx, hbx⟩ : ∃ bx, w.heap.size = bx := ⟨_, rfl⟩
 obtain ⟨w0, hw0⟩ : ∃ w0, w.alloc (.cells #[.int .i64 f, .int .i64 t, .int .i64 m, .int .i64 nb, .slice va vn vc] 135) = w0 := ⟨_, rfl⟩
 have b0 : w0.heap[bx]? = some (.cells #[.int .i64 f, .int .i64 t, .int .i64 m, .int .i64 nb, .slice va vn vc] 135 (0, 0)) := by rw [← hw0, ← hbx]; exact heap_alloc_new w _
 have F0 : Fr [] w w0 := by rw [← hw0]; exact (Fr.refl _ _).alloc _
 have R0 : Rep B w0 b q s := h.kept0 F0
 have HB : Hid (w0.heap[bx]? = some (.cells #[.int .i64 f, .int .i64 t, .int .i64 m, .int .i64 nb, .slice va vn vc] 135 (0, 0)) ∧ Fr [] w w0 ∧ Rep B w0 b q s ∧ bx < w0.heap.size) := ⟨b0, F0, R0, (Array.getElem?_eq_some_iff.1 b0).1⟩
 have HX : Hid (∀ W, Fr [] w0 W → W.cell? ⟨bx, 0, none⟩ = some (.int .i64 f) ∧ W.cell? ⟨bx, 1, none⟩ = some (.int .i64 t)) := fun W hW => by
  have hh : W.heap[bx]? = _ := (hW.block bx (Array.getElem?_eq_some_iff.1 b0).1 (by simp)).trans b0
  exact ⟨by rw [cell_of hh]; rfl, by rw [cell_of hh]; rfl⟩
 have e1 : w0.cell? ⟨bx, 1, none⟩ = some (.int .i64 t) := (HX.out w0 (Fr.refl _ _)).2
 have e3 : w0.cell? ⟨bx, 3, none⟩ = some (.int .i64 nb) := by rw [cell_of b0]; rfl
 have c3 : w0.cell? ⟨b, 3, none⟩ = some (.slice (some ⟨s.vb, 0, none⟩) s.vol.length s.vol.length) := R0.cells.2.2.1
 have hw0' := hw0
 obtain ⟨nv, hnv⟩ : ∃ nv, s.vol.length = nv := ⟨_, rfl⟩
 rw [hnv] at c3 hnb
 have hne : (nb != (nv : Int)) = true := by simpa using hnb
 clear h hw0 b0 F0 R0 hnv hnb HX
 go_enter Tryz.func80, Tryz.ntmps80
 go_wp2
 go_region
 go_wp2
 go_ret
 exact ⟨rfl, by first | exact HB.out.2.1 | exact HB.out.2.1.drew⟩
set_option maxRecDepth 100000 in
set_option maxHeartbeats 3200000 in
theorem receive_err (B b : Nat) (s : Sto) (tx : ByteArray) (w : World) (h : Rep B w b 0 s) (f t m : Int) (nv : Nat) (l : List (Int × B4)) (en : Int) (hen : (en == 0) = false)
  (hp : ∀ W, Calls Tryz.prog 79 #[.string tx] W fun e w' => ∃ v, e = .returned (.tuple #[.agg #[.int .i64 f, .int .i64 t, .int .i64 m, .int .i64 (nv : Int), v], .bool true]) ∧ w'.ownsRow W.heap.size 137 5 v l.length (blC l) ∧ Fr [] W w')
  (hac : ∀ W v, Rep B W b 1 s → (∃ a n c, v = .slice a n c) → Calls Tryz.prog 80 #[.pointer (some ⟨b, 0, none⟩), .agg #[.int .i64 f, .int .i64 t, .int .i64 m, .int .i64 (nv : Int), v]] W fun e w' => e = .returned (.int .i64 en) ∧ Fr [] W w') :
  Calls Tryz.prog 52 #[.pointer (some ⟨b, 0, none⟩), .string tx] w fun e w' => e = .returned (.tuple #[.int .i64 0, .int .i64 en]) ∧ Rep B w' b 0 s ∧ Fr (foot b s) w w' := by
 obtain ⟨w1, hw1, R1⟩ := h.lk
 have HL := lock_free Tryz.muLib ⟨b, 0, none⟩ w h.cells.1 (h.frozen 0)
 have F1 := lkF s hw1
 have HF : Hid (w.setCell ⟨b, 0, none⟩ (.int .i32 1) = w1 ∧ Rep B w1 b 1 s ∧ Fr (foot b s) w w1) := ⟨hw1, R1, F1⟩
 have HP : Hid (∀ W, Calls Tryz.prog 79 #[.string tx] W fun e w' => ∃ v, e = .returned (.tuple #[.agg #[.int .i64 f, .int .i64 t, .int .i64 m, .int .i64 (nv : Int), v], .bool true]) ∧ w'.ownsRow W.heap.size 137 5 v l.length (blC l) ∧ Fr [] W w') := hp
 have HAc : Hid (∀ W v, Rep B W b 1 s → (∃ a n c, v = .slice a n c) → Calls Tryz.prog 80 #[.pointer (some ⟨b, 0, none⟩), .agg #[.int .i64 f, .int .i64 t, .int .i64 m, .int .i64 (nv : Int), v]] W fun e w' => e = .returned (.int .i64 en) ∧ Fr [] W w') := hac
 clear h R1 F1 hw1 hp hac
 go_enter_defers Tryz.func52, Tryz.ntmps52
 go_wp2_with (first
  | (go_at_call 23; refine HL.mono ?_; rintro e w' ⟨rfl, hw'⟩; rw [HF.out.1] at hw'; have hw' := hw'.symm; subst hw')
  | (go_at_call 79; refine (HP.out _).mono ?_; rintro e w2 ⟨v, rfl, o2, hfr⟩
     obtain ⟨va, vc, hva⟩ := own_shape o2
     subst hva
     have HR2 : Hid (Rep B (w2.alloc (.cells #[.int .i64 f, .int .i64 t, .int .i64 m, .int .i64 (nv : Int), .slice va l.length vc] 135)) b 1 s ∧ Fr (foot b s) w (w2.alloc (.cells #[.int .i64 f, .int .i64 t, .int .i64 m, .int .i64 (nv : Int), .slice va l.length vc] 135))) := ⟨(HF.out.2.1.kept0 hfr).kept0 ((Fr.refl _ _).alloc _), (HF.out.2.2.trans hfr (by simp)).alloc _⟩
     clear hfr o2)
  | (go_at_call 80; refine (HAc.out _ _ HR2.out.1 ⟨_, _, _, rfl⟩).mono ?_; rintro e w3 ⟨rfl, hfr⟩
     have HR3 : Hid (Rep B w3 b 1 s ∧ Fr (foot b s) w w3) := ⟨HR2.out.1.kept0 hfr, HR2.out.2.trans hfr (by simp)⟩
     clear hfr))
 refine leaves_cons (f := 24) (args := #[.pointer (some ⟨b, 0, none⟩)]) (by simp) (by simp [go_sem]) ?_
 refine (unlock_deferred Tryz.muLib ⟨b, 0, none⟩ .returning _ HR3.out.1.cells.1 (HR3.out.1.frozen 0)).mono ?_
 rintro e u' w'' ⟨rfl, rfl, rfl⟩
 exact ⟨_, results_tmp2 rfl _ _ _, rfl, HR3.out.1.lock 0, HR3.out.2.setCell _ (Or.inl (by simp [foot]))⟩
end Go.Proofs.YthdhegmlknpllaaGreat
