/-
  The walks of tether/tetherlaw.sameRules (6), ownRules (7), keptRules (8).
-/
import Derived.Test.YtikbfhhkkplpbaaDoorRef
import Derived.ArgAppend
namespace Go.Proofs.YtikbfhhkkplpbaaDoor
open Go.RowKit Pl

/-- A row that is owned and not empty: where it lies and what its cells are. -/
theorem own_at {w : World} {base : Nat} {e : TypeId} {size : Nat} {v : Value} {n : Nat} {xs : List Value} (h : w.ownsRow base e size v n xs) (hn : 0 < n) : ∃ g cap, v = .slice (some ⟨g, 0, none⟩) n cap ∧ n ≤ cap ∧ ∀ j u, xs[j]? = some u → w.cell? ⟨g, j, none⟩ = some u := by
  rcases h.2 with ⟨rfl, rfl⟩ | ⟨g, cap, cur, rfl, hb, hg, hc, _⟩
  · omega
  · refine ⟨g, cap, rfl, hc, fun j u hj => ?_⟩
    have := h.cells (g := g) rfl j u hj
    have hadd : (⟨g, 0, none⟩ : Addr).add j = ⟨g, j, none⟩ := by unfold Addr.add; split <;> simp_all
    rwa [hadd] at this

theorem rc_get (rs : List (Int × Int)) (k : Nat) (h : k < rs.length) : (rc rs)[k * 2]? = some (.int .i64 rs[k].1) ∧ (rc rs)[k * 2 + 1]? = some (.int .i64 rs[k].2) := by
  induction rs generalizing k with
  | nil => simp at h
  | cons r l ih =>
    cases k with
    | zero => simp [rc]
    | succ k =>
      have := ih k (by simpa using h)
      have e : rc (r :: l) = .int .i64 r.1 :: .int .i64 r.2 :: rc l := rfl
      rw [e, show (k + 1) * 2 = k * 2 + 1 + 1 by omega]
      simpa using this

set_option maxHeartbeats 1000000 in
theorem same_any (x y : Value) (rs : List (Int × Int)) (b1 b2 : Nat) (w : World) (hx : w.ownsRow b1 34 2 x rs.length (rc rs)) (hy : w.ownsRow b2 34 2 y rs.length (rc rs)) (hl : rs.length ≤ 1000) :
    Calls Tryd.prog 6 #[x, y] w fun e w' => e = .returned (.bool true) ∧ ∃ n, w' = w.drewN n := by
  by_cases h0 : rs.length = 0
  · obtain ⟨a1, c1, rfl⟩ := own_shape hx
    obtain ⟨a2, c2, rfl⟩ := own_shape hy
    rw [h0]
    clear hx hy
    go_enter Tryd.func6, Tryd.ntmps6
    go_wp2
    refine wp_loop_rounds 1 ?_
    rw [rounds_succ]
    go_wp2
    go_ret
    exact ⟨rfl, 0, rfl⟩
  · obtain ⟨g1, c1, rfl, hc1, hx'⟩ := own_at hx (by omega)
    obtain ⟨g2, c2, rfl, hc2, hy'⟩ := own_at hy (by omega)
    clear hx hy
    go_enter Tryd.func6, Tryd.ntmps6
    go_wp2
    go_loopw [5] (fun i wr => ∃ (k n : Nat), k ≤ rs.length ∧ i = .int .i64 k ∧ wr = w.drewN n) (fun i _ => rs.length - (intOf i).toNat)
    case atStart => exact ⟨0, 0, Nat.zero_le _, rfl, rfl⟩
    case round =>
      obtain ⟨k, n, hk, rfl, rfl⟩ := hrel
      by_cases hlt : k < rs.length
      · have hg := rc_get rs k hlt
        have d1 : ∀ m, (w.drewN m).cell? ⟨g1, k * 2, none⟩ = some (.int .i64 rs[k].1) := fun m => hx' _ _ hg.1
        have d2 : ∀ m, (w.drewN m).cell? ⟨g1, k * 2 + 1, none⟩ = some (.int .i64 rs[k].2) := fun m => hx' _ _ hg.2
        have d3 : ∀ m, (w.drewN m).cell? ⟨g2, k * 2, none⟩ = some (.int .i64 rs[k].1) := fun m => hy' _ _ hg.1
        have d4 : ∀ m, (w.drewN m).cell? ⟨g2, k * 2 + 1, none⟩ = some (.int .i64 rs[k].2) := fun m => hy' _ _ hg.2
        have HX : Hid _ := hx'
        have HY : Hid _ := hy'
        clear hx' hy' hg
        go_wp2
        go_quiet (fail)
        go_wp2
        go_roundw
        case rel => exact ⟨k + 1, n + nq, by omega, by go_num, rfl⟩
        case measure => simp [intOf]; omega
      · go_wp2
        go_ret
        exact ⟨rfl, n, rfl⟩

theorem rc_set (rs : List (Int × Int)) (k : Nat) (a b : Int) : ((rc rs).set (k * 2) (.int .i64 a)).set (k * 2 + 1) (.int .i64 b) = rc (rs.set k (a, b)) := by
  induction rs generalizing k with
  | nil => simp [rc]
  | cons r l ih =>
    have e : rc (r :: l) = .int .i64 r.1 :: .int .i64 r.2 :: rc l := rfl
    cases k with
    | zero => rfl
    | succ k =>
      rw [e, show (k + 1) * 2 = k * 2 + 1 + 1 by omega]
      simp only [List.set_cons_succ]
      rw [ih k]
      rfl

/-- k rules, each of them the mark. -/
def mk (mark : Int) (k : Nat) : List Value := rc (List.replicate k (mark, 0))
theorem mk_len (mark : Int) (k : Nat) : (mk mark k).length = k * 2 := by rw [mk, rc_len, List.length_replicate]
theorem mk_next (mark : Int) (k : Nat) : mk mark (k + 1) = mk mark k ++ [.int .i64 mark, .int .i64 0] := by
  rw [mk, mk, List.replicate_succ', rc_app]; rfl
theorem mk_take (mark : Int) (k n : Nat) (h : k ≤ n) : (mk mark n).take (k * 2) = mk mark k := by
  obtain ⟨j, rfl⟩ : ∃ j, n = k + j := ⟨n - k, by omega⟩
  rw [mk, mk, ← List.replicate_append_replicate, rc_app, List.take_append_of_le_length (by rw [rc_len, List.length_replicate]; exact Nat.le_refl _), List.take_of_length_le (by rw [rc_len, List.length_replicate]; exact Nat.le_refl _)]
theorem mix_step (mark : Int) (rs : List (Int × Int)) (k : Nat) (h : k < rs.length) : (List.replicate k (mark, (0 : Int)) ++ rs.drop k).set k (mark, 0) = List.replicate (k + 1) (mark, 0) ++ rs.drop (k + 1) := by
  rw [List.set_append_right _ _ (by simp), List.length_replicate, Nat.sub_self, List.drop_eq_getElem_cons h, List.set_cons_zero, List.replicate_succ', List.append_assoc]
  rfl

theorem own_types {w : World} {b1 b2 : Nat} {e1 e2 : TypeId} {s1 s2 n1 n2 : Nat} {u v : Value} {xs ys : List Value} (h1 : w.ownsRow b1 e1 s1 u n1 xs) (h2 : w.ownsRow b2 e2 s2 v n2 ys) (hne : e1 ≠ e2) : u.ownBlock = none ∨ u.ownBlock ≠ v.ownBlock := by
  rcases h1.2 with ⟨rfl, _⟩ | ⟨g, cap, cur, rfl, _, hg, _⟩
  · exact Or.inl rfl
  · right
    rcases h2.2 with ⟨rfl, _⟩ | ⟨g', cap', cur', rfl, _, hg', _⟩
    · simp [Value.ownBlock]
    · intro e
      simp [Value.ownBlock] at e
      subst e
      rw [hg] at hg'
      simp at hg'
      exact hne hg'.2

/-- An append to a row of one's own, said so that the rows that share its head are seen to stay. -/
theorem wpList_append_keep {P : Program} (w : World) {ops : Array Oper} {rest : List Oper} {o : Oper} {a : Act} {Q : Exit → Act → World → Prop}
    (hg : o.guard = none) (s x : Operand) (t : TypeId) (hop : o.op = Op.call { callee := Callee.builtin Builtin.append, args := #[s, x], argTypes := #[t, t] })
    (base : Nat) (e : TypeId) (i : TypeInfo) (z : Value) (size bytes : Nat) (h1 : P.underlying t = some (.slice e)) (h2 : P.info? e = some i) (h3 : i.zero = some z) (h4 : i.size = size) (h5 : i.bytes = bytes) (h6 : z.cells.size = size) (h7 : 0 < size)
    (v : Value) (n : Nat) (xs : List Value) (hs : a.eval s = v) (hown : w.ownsRow base e size v n xs) (ad : Addr) (m c : Nat) (news : List Value) (hx : a.eval x = .slice (some ad) m c) (hn : news.length = m * size)
    (hc : ∀ j u, news[j]? = some u → w.cell? (ad.add j) = some u) (h1c : ∀ u ∈ news, u.oneCell' = true) (b1 : n + m ≤ maxLen) (b2 : (n + m) * bytes ≤ 140737488355328) (hbase : base ≤ w.heap.size) (hm : 0 < m)
    (hK : ∀ v' w', w'.ownsRow base e size v' (n + m) (xs ++ news) → w.grownBy w' v.ownBlock → ((∃ g cap, v = .slice (some ⟨g, 0, none⟩) n cap ∧ v' = .slice (some ⟨g, 0, none⟩) (n + m) cap) ∨ (w.grownBy w' none ∧ w'.ownsRow w.heap.size e size v' (n + m) (xs ++ news))) → wpList P ops Q rest (a.put o.dst v') w') :
    wpList P ops Q (o :: rest) a w := by
  rcases hown.2 with ⟨rfl, rfl⟩ | ⟨g, cap, cur, rfl, hb, hgg, hnc, hcm, hcs, htk⟩
  · have hxs : xs = [] := List.eq_nil_of_length_eq_zero (by simpa using hown.1)
    subst hxs
    refine wpList_append_grows w hg s x t hop e i z size bytes h1 h2 h3 h4 h5 h6 h7 none 0 0 [] hs (fun _ => ⟨rfl, rfl⟩) (by simp) (fun b hb => by cases hb) ad m c news hx hn hc h1c ?_ b1 b2 ?_
    · omega
    · intro v' w' h8 h9
      exact hK v' w' (own_base h8 hbase) ⟨h9.os, h9.tape, h9.output, h9.size, fun k hk _ => h9.block k hk (by simp)⟩ (Or.inr ⟨h9, h8⟩)
  · by_cases hr : n + m ≤ cap
    · refine wpList_append_fits w hg s x t hop base e i size h1 h2 h4 g n cap xs hs hown ad m c news hx hn hc h1c hr ?_
      intro w' h8 h9
      exact hK _ w' h8 h9 (Or.inl ⟨g, cap, rfl, rfl⟩)
    · refine wpList_append_grows w hg s x t hop e i z size bytes h1 h2 h3 h4 h5 h6 h7 _ n cap xs hs (fun e => by cases e) hown.1 (fun b hb j u hj => by cases hb; exact hown.cells rfl j u hj) ad m c news hx hn hc h1c (by omega) b1 b2 ?_
      intro v' w' h8 h9
      exact hK v' w' (own_base h8 hbase) ⟨h9.os, h9.tape, h9.output, h9.size, fun k hk _ => h9.block k hk (by simp)⟩ (Or.inr ⟨h9, h8⟩)

/-- A row whose cells are the head of another's stays through such an append to that other. -/
theorem own_prefix {w w' : World} {base b : Nat} {e : TypeId} {size : Nat} {v v' u : Value} {n m k : Nat} {xs news ys : List Value} (hsz : 0 < size) (hv : w.ownsRow base e size v n xs) (hu : w.ownsRow b e size u k ys) (hk : k ≤ n) (hy : xs.take (k * size) = ys)
    (hv' : w'.ownsRow base e size v' (n + m) (xs ++ news)) (hg : w.grownBy w' v.ownBlock)
    (hh : (∃ g cap, v = .slice (some ⟨g, 0, none⟩) n cap ∧ v' = .slice (some ⟨g, 0, none⟩) (n + m) cap) ∨ w.grownBy w' none) : w'.ownsRow b e size u k ys := by
  rcases hh with ⟨g, cap, rfl, rfl⟩ | hh
  · rcases hu.2 with ⟨rfl, rfl⟩ | ⟨g', cap', cur', rfl, hb', hg', hnc', hcm', hcs', htk'⟩
    · exact ⟨hu.1, Or.inl ⟨rfl, rfl⟩⟩
    · by_cases hgg : g' = g
      · subst hgg
        refine ⟨hu.1, Or.inr ?_⟩
        rcases hv.2 with ⟨h, _⟩ | ⟨g1, cap1, cur1, h, _, hg1, _, _, hcs1, _⟩
        · simp at h
        · simp only [Value.slice.injEq, Option.some.injEq, Addr.mk.injEq, and_true, true_and] at h
          obtain ⟨rfl, rfl⟩ := h
          rcases hv'.2 with ⟨h, _⟩ | ⟨g2, cap2, cur2, h, _, hg2, _, _, hcs2, htk2⟩
          · simp at h
          · simp only [Value.slice.injEq, Option.some.injEq, Addr.mk.injEq, and_true, true_and] at h
            obtain ⟨rfl, rfl⟩ := h
            rw [hg'] at hg1
            simp at hg1
            subst hg1
            have hcc : cap' = cap := Nat.eq_of_mul_eq_mul_right hsz (hcs'.symm.trans hcs1)
            subst hcc
            refine ⟨g', cap', cur2, rfl, hb', hg2, hnc', hcm', hcs2, ?_⟩
            have hle : k * size ≤ (n + m) * size := Nat.mul_le_mul_right _ (by omega)
            have : (cur2.toList.take ((n + m) * size)).take (k * size) = ys := by
              rw [htk2, List.take_append_of_le_length (by rw [hv.1]; exact Nat.mul_le_mul_right _ hk), hy]
            rwa [List.take_take, Nat.min_eq_left hle] at this
      · exact hu.kept hg (Or.inr (by simp [Value.ownBlock]; exact hgg))
  · exact hu.kept hh (by cases hv : u.ownBlock <;> simp)

theorem info22 : (Tryd.prog.info? 22).map (fun i => (i.zero, i.size, i.bytes)) = some (some (.slice none 0 0), 1, 24) := by kernel_rfl

/-- What ownRules hands back: a list of lists, each of them all marks. -/
def Own4 (base : Nat) (w : World) (v : Value) (mark : Int) : Prop := ∃ ls : List Value, ls.length ≤ 4 ∧ w.ownsRow base 22 1 v ls.length ls ∧ ∀ u ∈ ls, ∃ k, k ≤ 8 ∧ w.ownsRow base 34 2 u k (mk mark k)

theorem gb_trans {a b c : World} {row : Option Nat} (h : a.grownBy b row) (h' : b.grownBy c row) : a.grownBy c row :=
  ⟨h'.os.trans h.os, h'.tape.trans h.tape, h'.output.trans h.output, Nat.le_trans h.size h'.size, fun k hk hn => (h'.block k (Nat.lt_of_lt_of_le hk h.size) hn).trans (h.block k hk hn)⟩

/-- What holds between the rounds of ownRules' second loop. -/
def Inv (base : Nat) (w : World) (row : Option Nat) (mark : Int) (n : Nat) (vo vg : Value) (ls : List Value) (wr : World) : Prop :=
  wr.ownsRow w.heap.size 22 1 vo ls.length ls ∧ wr.ownsRow base 34 2 vg n (mk mark n) ∧ (∀ u ∈ ls, ∃ k, k ≤ n ∧ wr.ownsRow base 34 2 u k (mk mark k)) ∧ w.grownBy wr row ∧ (vg.ownBlock = row ∨ ∀ b, vg.ownBlock = some b → w.heap.size ≤ b)

theorem Inv.alloc {base : Nat} {w : World} {row : Option Nat} {mark : Int} {n : Nat} {vo vg : Value} {ls : List Value} {wr : World} (h : Inv base w row mark n vo vg ls wr) (o : Obj) : Inv base w row mark n vo vg ls (wr.alloc o) :=
  ⟨h.1.alloc o, h.2.1.alloc o, fun u hu => by obtain ⟨k, hk, h1⟩ := h.2.2.1 u hu; exact ⟨k, hk, h1.alloc o⟩, gb_trans h.2.2.2.1 (World.grownBy_alloc _ _ _), h.2.2.2.2⟩

theorem gb_wide {w wr w1 : World} {row r1 : Option Nat} (h : w.grownBy wr row) (h1 : wr.grownBy w1 r1) (hr : r1 = row ∨ ∀ b, r1 = some b → w.heap.size ≤ b) : w.grownBy w1 row :=
  ⟨h1.os.trans h.os, h1.tape.trans h.tape, h1.output.trans h.output, Nat.le_trans h.size h1.size, fun k hk hn => (h1.block k (Nat.lt_of_lt_of_le hk h.size) (by
    rcases hr with rfl | hr
    · exact hn
    · intro e; have := hr k e.symm; omega)).trans (h.block k hk hn)⟩

theorem Inv.step1 {base B : Nat} {w : World} {row : Option Nat} {mark : Int} {n : Nat} {vo vg : Value} {ls : List Value} {wr w1 : World} {v' : Value} (h : Inv base w row mark n vo vg ls wr)
    (hv : w1.ownsRow base 34 2 v' (n + 1) (mk mark n ++ [.int .i64 mark, .int .i64 0])) (hg : wr.grownBy w1 vg.ownBlock)
    (hB : w.heap.size ≤ B)
    (hh : (∃ g cap, vg = .slice (some ⟨g, 0, none⟩) n cap ∧ v' = .slice (some ⟨g, 0, none⟩) (n + 1) cap) ∨ (wr.grownBy w1 none ∧ w1.ownsRow B 34 2 v' (n + 1) (mk mark n ++ [.int .i64 mark, .int .i64 0]))) :
    Inv base w row mark (n + 1) vo v' ls w1 := by
  obtain ⟨h1, h2, h3, h4, h5⟩ := h
  refine ⟨h1.kept hg (own_types h1 h2 (by decide)), by rw [mk_next]; exact hv, fun u hu => ?_, gb_wide h4 hg h5, ?_⟩
  · obtain ⟨k, hk, hku⟩ := h3 u hu
    exact ⟨k, by omega, own_prefix (by decide) h2 hku hk (mk_take mark k n hk) hv hg (hh.elim Or.inl fun x => Or.inr x.1)⟩
  · rcases hh with ⟨g, cap, rfl, rfl⟩ | ⟨_, hh⟩
    · exact h5
    · right
      intro b hb
      have := (hh.lt b hb).1
      omega

theorem Inv.step2 {base : Nat} {w : World} {row : Option Nat} {mark : Int} {n : Nat} {vo vg vo' : Value} {ls : List Value} {wr w1 : World} (h : Inv base w row mark n vo vg ls wr)
    (hv : w1.ownsRow w.heap.size 22 1 vo' (ls.length + 1) (ls ++ [vg])) (hg : wr.grownBy w1 vo.ownBlock) : Inv base w row mark n vo' vg (ls ++ [vg]) w1 := by
  obtain ⟨h1, h2, h3, h4, h5⟩ := h
  refine ⟨by rw [List.length_append]; exact hv, h2.kept hg (own_types h2 h1 (by decide)), fun u hu => ?_, gb_wide h4 hg (Or.inr fun b hb => (h1.lt b hb).1), h5⟩
  rcases List.mem_append.1 hu with hu | hu
  · obtain ⟨k, hk, hku⟩ := h3 u hu
    exact ⟨k, hk, hku.kept hg (own_types hku h1 (by decide))⟩
  · simp at hu
    subst hu
    exact ⟨n, Nat.le_refl _, h2.kept hg (own_types h2 h1 (by decide))⟩

theorem own_lit (w : World) (base : Nat) (v : Value) (hb : base ≤ w.heap.size) : (w.alloc (.cells #[v] 22)).ownsRow base 22 1 (.slice (some ⟨w.heap.size, 0, none⟩) 1 1) 1 [v] :=
  ⟨rfl, Or.inr ⟨w.heap.size, 1, #[v], rfl, hb, heap_alloc_new w _, Nat.le_refl _, by unfold maxLen; omega, rfl, rfl⟩⟩

theorem cells_one (w : World) (a : Value) (T : TypeId) : ∀ j u, [a][j]? = some u → (w.alloc (.cells #[a] T)).cell? ((⟨w.heap.size, 0, none⟩ : Addr).add j) = some u := by
  intro j u hj
  match j, hj with
  | 0, hj => simp at hj; subst hj; simp [Addr.add]

theorem slice_one {w : World} {base : Nat} {e : TypeId} {size : Nat} {v : Value} {n : Nat} {xs : List Value} (h : w.ownsRow base e size v n xs) : ∀ u ∈ [v], u.oneCell' = true := by
  intro u hu
  simp at hu
  subst hu
  obtain ⟨ao, cap, rfl⟩ := own_shape h
  rfl

set_option maxHeartbeats 2000000 in
theorem own_any (l : Value) (rs : List (Int × Int)) (mark : Int) (base : Nat) (w : World) (hl : w.ownsRow base 34 2 l rs.length (rc rs)) (hbase : base ≤ w.heap.size) (hn : rs.length ≤ 4) :
    Calls Tryd.prog 7 #[l, .int .i64 mark] w fun e w' => ∃ v, e = .returned v ∧ Own4 base w' v mark ∧ w.grownBy w' l.ownBlock := by
  obtain ⟨i0, hi, hz0, hz1, hz2⟩ := info_parts info34
  obtain ⟨j0, hj, hy0, hy1, hy2⟩ := info_parts info22
  obtain ⟨ao, cap, rfl⟩ := own_shape hl
  go_enter Tryd.func7, Tryd.ntmps7
  go_wp2
  go_loopw [5] (fun i wr => ∃ k : Nat, k ≤ rs.length ∧ i = .int .i64 k ∧ wr.ownsRow base 34 2 (.slice ao rs.length cap) rs.length (rc (List.replicate k (mark, 0) ++ rs.drop k)) ∧ w.grownBy wr (Value.slice ao rs.length cap).ownBlock) (fun i _ => rs.length - (intOf i).toNat)
  case atStart => exact ⟨0, Nat.zero_le _, rfl, hl, World.grownBy.refl _ _⟩
  case round =>
    obtain ⟨k, hk, rfl, hown, hgr⟩ := hrel
    by_cases hlt : k < rs.length
    · obtain ⟨g, cap', hv, hcap, _⟩ := own_at hown (by omega)
      simp only [Value.slice.injEq, true_and] at hv
      obtain ⟨rfl, rfl⟩ := hv
      have hlen : (rc (List.replicate k (mark, 0) ++ rs.drop k)).length = rs.length * 2 := hown.1
      have d1 : ∃ u, wr.cell? ⟨g, k * 2, none⟩ = some u := by rw [hown.cellAt (k * 2) (by omega)]; exact ⟨_, List.getElem?_eq_getElem (by omega)⟩
      have d2 : ∃ u, wr.cell? ⟨g, k * 2 + 1, none⟩ = some u := by rw [hown.cellAt (k * 2 + 1) (by omega)]; exact ⟨_, List.getElem?_eq_getElem (by omega)⟩
      obtain ⟨u1, d1⟩ := d1
      obtain ⟨u2, d2⟩ := d2
      have f1 : wr.frozen? ⟨g, k * 2, none⟩ = false := hown.frozenAt _
      have f2 : wr.frozen? ⟨g, k * 2 + 1, none⟩ = false := hown.frozenAt _
      have s1 := hown.stored (k * 2) (.int .i64 mark)
      have s2 := s1.1.stored (k * 2 + 1) (.int .i64 0)
      have hE := s2.1
      rw [rc_set, mix_step mark rs k hlt] at hE
      have hG := gb_trans (gb_trans hgr s1.2) s2.2
      clear hown hgr hlen s1 s2 hl
      go_wp2
      go_roundw
      case rel => exact ⟨k + 1, by omega, by go_num, hE, hG⟩
      case measure => simp [intOf]; omega
    · have hke : k = rs.length := by omega
      have hown1 : wr.ownsRow base 34 2 (.slice ao rs.length cap) rs.length (mk mark rs.length) := by
        rw [hke, List.drop_length, List.append_nil] at hown; exact hown
      have hI : Inv base w (Value.slice ao rs.length cap).ownBlock mark rs.length (.slice (some ⟨wr.heap.size, 0, none⟩) 1 1) (.slice ao rs.length cap) [.slice ao rs.length cap] (wr.alloc (.cells #[.slice ao rs.length cap] 22)) :=
        ⟨own_lit wr _ _ hgr.size, hown1.alloc _, fun u hu => by simp at hu; subst hu; exact ⟨rs.length, Nat.le_refl _, hown1.alloc _⟩, gb_trans hgr (World.grownBy_alloc _ _ _), Or.inl rfl⟩
      obtain ⟨row, hrow⟩ : ∃ row, (Value.slice ao rs.length cap).ownBlock = row := ⟨_, rfl⟩
      have HI : Hid (Inv base w row mark rs.length (.slice (some ⟨wr.heap.size, 0, none⟩) 1 1) (.slice ao rs.length cap) [.slice ao rs.length cap] (wr.alloc (.cells #[.slice ao rs.length cap] 22))) := by rw [← hrow]; exact hI
      have HROW : Hid ((Value.slice ao rs.length cap).ownBlock = row) := hrow
      clear hown hown1 hgr hI hke hl hrow
      go_wp2
      go_loopw [6, 7, 8] (fun vo vg i wr => ∃ (j : Nat) (ls : List Value), j ≤ 3 ∧ i = .int .i64 j ∧ ls.length = j + 1 ∧ Hid (Inv base w row mark (rs.length + j) vo vg ls wr)) (fun _ _ i _ => 3 - (intOf i).toNat)
      case atStart => exact ⟨0, _, by omega, rfl, rfl, HI⟩
      case round =>
        obtain ⟨j, ls, hj3, rfl, hls, HJ⟩ := hrel
        by_cases hlt3 : j < 3
        · have HI1 : Hid (Inv base w row mark (rs.length + j) u6 u7 ls (wr.alloc (.cells #[.int .i64 mark, .int .i64 0] 34))) := HJ.out.alloc _
          have hsz : w.heap.size ≤ wr.heap.size := HJ.out.2.2.2.1.size
          clear HJ HI
          go_wp2_with (at_builtin; refine wpList_append_keep _ rfl (.tmp 27) (.tmp 30) 22 rfl base 34 i0 _ 2 16 Tryd.underlying22 hi hz0 hz1 hz2 rfl (by decide) u7 (rs.length + j) (mk mark (rs.length + j)) rfl HI1.out.2.1 ⟨wr.heap.size, 0, none⟩ 1 1 [.int .i64 mark, .int .i64 0] rfl rfl (cells_two _ _ _) (two_one _ _) (by unfold maxLen; omega) (by omega) (by simp; omega) (by decide) ?_)
          intro v1 w1 hv1 hg1 hh1
          have S1 : Hid (Inv base w row mark (rs.length + j + 1) u6 v1 ls w1) := HI1.out.step1 hv1 hg1 (by omega) hh1
          have hsz1 : w.heap.size ≤ w1.heap.size := S1.out.2.2.2.1.size
          obtain ⟨a1, c1, hs1⟩ := own_shape S1.out.2.1
          subst hs1
          clear hv1 hg1 hh1 HI1
          go_wp2_with (at_builtin; refine wpList_append_own _ rfl (.tmp 32) (.tmp 34) 27 rfl w.heap.size 22 j0 _ 1 24 Tryd.underlying27 hj hy0 hy1 hy2 rfl (by decide) u6 ls.length ls rfl (S1.out.1.alloc _) ⟨w1.heap.size, 0, none⟩ 1 1 [.slice a1 (rs.length + j + 1) c1] rfl rfl (cells_one _ _ _) (slice_one S1.out.2.1) (by unfold maxLen; omega) (by omega) (by simp; omega) ?_)
          intro v2 w2 hv2 hg2 _
          have S2 : Hid (Inv base w row mark (rs.length + j + 1) v2 (.slice a1 (rs.length + j + 1) c1) (ls ++ [.slice a1 (rs.length + j + 1) c1]) w2) := (S1.out.alloc _).step2 (by rw [hls]; exact hv2) hg2
          clear hv2 hg2 S1
          go_wp2
          go_roundw
          case rel => exact ⟨j + 1, ls ++ [.slice a1 (rs.length + j + 1) c1], by omega, by go_num, by simp; omega, S2⟩
          case measure => simp [intOf]; omega
        · have hj3' : j = 3 := by omega
          have HE : Hid (∃ v, Ending.returned u6 = .returned v ∧ Own4 base wr v mark ∧ w.grownBy wr (Value.slice ao rs.length cap).ownBlock) := by
            have h := HJ.out
            refine ⟨u6, rfl, ⟨ls, by omega, own_base h.1 hbase, fun u hu => ?_⟩, by rw [HROW.out]; exact h.2.2.2.1⟩
            obtain ⟨q, hq, hqu⟩ := h.2.2.1 u hu
            exact ⟨q, by omega, hqu⟩
          obtain ⟨a6, c6, hs6⟩ := own_shape HJ.out.1
          subst hs6
          clear hj3' HJ HI
          go_wp2
          go_ret
          exact HE.out

theorem mk_get (mark : Int) (k n : Nat) (h : k < n) : (mk mark n)[k * 2]? = some (.int .i64 mark) ∧ (mk mark n)[k * 2 + 1]? = some (.int .i64 0) := by
  have := rc_get (List.replicate n (mark, (0 : Int))) k (by simpa using h)
  simpa [mk] using this

set_option maxHeartbeats 1000000 in
theorem kept_any (v : Value) (mark : Int) (base : Nat) (w : World) (h : Own4 base w v mark) :
    Calls Tryd.prog 8 #[v, .int .i64 mark] w fun e w' => e = .returned (.bool true) ∧ w' = w := by
  obtain ⟨ls, hls, hv, hu⟩ := h
  have HU : Hid _ := hu
  clear hu
  obtain ⟨ao, cap, rfl⟩ := own_shape hv
  go_enter Tryd.func8, Tryd.ntmps8
  go_wp2
  go_loop [5] (fun i => ∃ k : Nat, k ≤ ls.length ∧ i = .int .i64 k) (fun i => ls.length - (intOf i).toNat)
  case atStart => exact ⟨0, Nat.zero_le _, rfl⟩
  case round =>
    obtain ⟨k, hk, rfl⟩ := hrel
    by_cases hlt : k < ls.length
    · obtain ⟨g, cap', hsh, hcap, hcell⟩ := own_at hv (by omega)
      simp only [Value.slice.injEq, true_and] at hsh
      obtain ⟨rfl, rfl⟩ := hsh
      obtain ⟨n, hn8, hun⟩ := HU.out ls[k] (List.getElem_mem hlt)
      have hc0 : w.cell? ⟨g, k, none⟩ = some ls[k] := hcell k _ (List.getElem?_eq_getElem hlt)
      obtain ⟨a1, c1, hs1⟩ := own_shape hun
      rw [hs1] at hc0 hun
      clear hcell hs1 hv
      go_wp2
      go_loop [6] (fun i => ∃ q : Nat, q ≤ n ∧ i = .int .i64 q) (fun i => n - (intOf i).toNat)
      case atStart => exact ⟨0, Nat.zero_le _, rfl⟩
      case round =>
        obtain ⟨q, hq, rfl⟩ := hrel
        by_cases hlq : q < n
        · obtain ⟨g1, c2, hsh, hcap1, hcell1⟩ := own_at hun (by omega)
          simp only [Value.slice.injEq, true_and] at hsh
          obtain ⟨rfl, rfl⟩ := hsh
          have hm := mk_get mark q n hlq
          have d1 : w.cell? ⟨g1, q * 2, none⟩ = some (.int .i64 mark) := hcell1 _ _ hm.1
          have d2 : w.cell? ⟨g1, q * 2 + 1, none⟩ = some (.int .i64 0) := hcell1 _ _ hm.2
          clear hcell1 hm hun
          go_wp2
          go_round
          case rel => exact ⟨q + 1, by omega, by go_num⟩
          case measure => simp [intOf]; omega
        · go_wp2
          go_round
          case rel => exact ⟨k + 1, by omega, by go_num⟩
          case measure => simp [intOf]; omega
    · go_wp2
      go_ret
      exact ⟨rfl, rfl⟩
end Go.Proofs.YtikbfhhkkplpbaaDoor
