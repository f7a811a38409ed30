/-
  What Whole's walk leans on.
-/
import Derived.Test.YthdhegmlknpllaaWhp
namespace Go.Proofs.Ythdhegmlknpllaa
open Go.RowKit Go.Maps Go.MuLone

theorem own_base {w : World} {base base' : Nat} {e : TypeId} {size : Nat} {v : Value} {n : Nat} {xs : List Value} (h : w.ownsRow base e size v n xs) (hb : base' ≤ base) : w.ownsRow base' e size v n xs := by
  refine ⟨h.1, ?_⟩
  rcases h.2 with hn | ⟨g, cap, cur, hv, hg, r⟩
  · exact Or.inl hn
  · exact Or.inr ⟨g, cap, cur, hv, by omega, r⟩

/-- An append to a row of one's own, said so that the rows that share its head are seen to stay. -/
theorem wpList_append_keep {P : Program} (w : World) {ops : Array Oper} {rest : List Oper} {o : Oper} {a : Act} {Q : Exit → Act → World → Prop}
    (hg : o.guard = none) (s x : Operand) (t : TypeId) (hop : o.op = Op.call { callee := Callee.builtin Builtin.append, args := #[s, x], argTypes := #[t, t] })
    (base : Nat) (e : TypeId) (i : TypeInfo) (z : Value) (size bytes : Nat) (h1 : P.underlying t = some (.slice e)) (h2 : P.info? e = some i) (h3 : i.zero = some z) (h4 : i.size = size) (h5 : i.bytes = bytes) (h6 : z.cells.size = size) (h7 : 0 < size)
    (v : Value) (n : Nat) (xs : List Value) (hs : a.eval s = v) (hown : w.ownsRow base e size v n xs) (ad : Addr) (m c : Nat) (news : List Value) (hx : a.eval x = .slice (some ad) m c) (hn : news.length = m * size)
    (hc : ∀ j u, news[j]? = some u → w.cell? (ad.add j) = some u) (h1c : ∀ u ∈ news, u.oneCell' = true) (b1 : n + m ≤ maxLen) (b2 : (n + m) * bytes ≤ 140737488355328) (hbase : base ≤ w.heap.size) (hm : 0 < m)
    (hK : ∀ v' w', w'.ownsRow base e size v' (n + m) (xs ++ news) → w.grownBy w' v.ownBlock → ((∃ g cap, v = .slice (some ⟨g, 0, none⟩) n cap ∧ v' = .slice (some ⟨g, 0, none⟩) (n + m) cap) ∨ (w.grownBy w' none ∧ w'.ownsRow w.heap.size e size v' (n + m) (xs ++ news))) → wpList P ops Q rest (a.put o.dst v') w') :
    wpList P ops Q (o :: rest) a w := by
  rcases hown.2 with ⟨rfl, rfl⟩ | ⟨g, cap, cur, rfl, hb, hgg, hnc, hcm, hcs, htk⟩
  · have hxs : xs = [] := List.eq_nil_of_length_eq_zero (by simpa using hown.1)
    subst hxs
    refine wpList_append_grows w hg s x t hop e i z size bytes h1 h2 h3 h4 h5 h6 h7 none 0 0 [] hs (fun _ => ⟨rfl, rfl⟩) (by simp) (fun b hb => by cases hb) ad m c news hx hn hc h1c ?_ b1 b2 ?_
    · omega
    · intro v' w' h8 h9
      exact hK v' w' (own_base h8 hbase) ⟨h9.os, h9.tape, h9.output, h9.size, fun k hk _ => h9.block k hk (by simp)⟩ (Or.inr ⟨h9, h8⟩)
  · by_cases hr : n + m ≤ cap
    · refine wpList_append_fits w hg s x t hop base e i size h1 h2 h4 g n cap xs hs hown ad m c news hx hn hc h1c hr ?_
      intro w' h8 h9
      exact hK _ w' h8 h9 (Or.inl ⟨g, cap, rfl, rfl⟩)
    · refine wpList_append_grows w hg s x t hop e i z size bytes h1 h2 h3 h4 h5 h6 h7 _ n cap xs hs (fun e => by cases e) hown.1 (fun b hb j u hj => by cases hb; exact hown.cells rfl j u hj) ad m c news hx hn hc h1c (by omega) b1 b2 ?_
      intro v' w' h8 h9
      exact hK v' w' (own_base h8 hbase) ⟨h9.os, h9.tape, h9.output, h9.size, fun k hk _ => h9.block k hk (by simp)⟩ (Or.inr ⟨h9, h8⟩)

/-- A row whose cells are the head of another's stays through such an append to that other. -/
theorem own_prefix {w w' : World} {base b : Nat} {e : TypeId} {size : Nat} {v v' u : Value} {n m k : Nat} {xs news ys : List Value} (hsz : 0 < size) (hv : w.ownsRow base e size v n xs) (hu : w.ownsRow b e size u k ys) (hk : k ≤ n) (hy : xs.take (k * size) = ys)
    (hv' : w'.ownsRow base e size v' (n + m) (xs ++ news)) (hg : w.grownBy w' v.ownBlock)
    (hh : (∃ g cap, v = .slice (some ⟨g, 0, none⟩) n cap ∧ v' = .slice (some ⟨g, 0, none⟩) (n + m) cap) ∨ w.grownBy w' none) : w'.ownsRow b e size u k ys := by
  rcases hh with ⟨g, cap, rfl, rfl⟩ | hh
  · rcases hu.2 with ⟨rfl, rfl⟩ | ⟨g', cap', cur', rfl, hb', hg', hnc', hcm', hcs', htk'⟩
    · exact ⟨hu.1, Or.inl ⟨rfl, rfl⟩⟩
    · by_cases hgg : g' = g
      · subst hgg
        refine ⟨hu.1, Or.inr ?_⟩
        rcases hv.2 with ⟨h, _⟩ | ⟨g1, cap1, cur1, h, _, hg1, _, _, hcs1, _⟩
        · simp at h
        · simp only [Value.slice.injEq, Option.some.injEq, Addr.mk.injEq, and_true, true_and] at h
          obtain ⟨rfl, rfl⟩ := h
          rcases hv'.2 with ⟨h, _⟩ | ⟨g2, cap2, cur2, h, _, hg2, _, _, hcs2, htk2⟩
          · simp at h
          · simp only [Value.slice.injEq, Option.some.injEq, Addr.mk.injEq, and_true, true_and] at h
            obtain ⟨rfl, rfl⟩ := h
            rw [hg'] at hg1
            simp at hg1
            subst hg1
            have hcc : cap' = cap := Nat.eq_of_mul_eq_mul_right hsz (hcs'.symm.trans hcs1)
            subst hcc
            refine ⟨g', cap', cur2, rfl, hb', hg2, hnc', hcm', hcs2, ?_⟩
            have hle : k * size ≤ (n + m) * size := Nat.mul_le_mul_right _ (by omega)
            have : (cur2.toList.take ((n + m) * size)).take (k * size) = ys := by
              rw [htk2, List.take_append_of_le_length (by rw [hv.1]; exact Nat.mul_le_mul_right _ hk), hy]
            rwa [List.take_take, Nat.min_eq_left hle] at this
      · exact hu.kept hg (Or.inr (by simp [Value.ownBlock]; exact hgg))
  · exact hu.kept hh (by cases hv : u.ownBlock <;> simp)


theorem own_rowG {w : World} {base : Nat} {ao : Option Addr} {cap n : Nat} {zs : List Int} (hn : zs.length = n) (h : w.ownsRow base 3 1 (.slice ao n cap) n (i1C zs)) : RowG w ao zs cap := by
  subst hn
  rcases h.2 with ⟨h1, h2⟩ | ⟨g, c, cur, h1, hb, hg, hc, hm, hs, ht⟩
  · simp at h1
    exact ⟨by omega, fun h => by omega⟩
  · simp at h1
    obtain ⟨rfl, rfl⟩ := h1
    refine ⟨hc, fun _ => ⟨g, 0, rfl, fun i hi => ?_⟩⟩
    rw [Nat.zero_add, cell_of hg, ← Array.getElem?_toList]
    have : (cur.toList.take (zs.length * 1))[i]? = (i1C zs)[i]? := by rw [ht]
    rw [List.getElem?_take_of_lt (by omega)] at this
    rw [this]
    simp [i1C, hi, tm]

def lst (d : Int) (M : Nat) : List Int := (List.range M).map (gd d)
theorem lst_len (d : Int) (M : Nat) : (lst d M).length = M := by simp [lst]
theorem lst_succ (d : Int) (M : Nat) : i1C (lst d (M + 1)) = i1C (lst d M) ++ [.int .i64 (gd d M)] := by simp [lst, i1C, List.range_succ]
theorem lst_tm (d : Int) (M i : Nat) (h : i < M) : tm (lst d M) i = gd d i := by simp [tm, lst, h]
theorem i1C_push (zs : List Int) (g : Int) : i1C (zs ++ [g]) = i1C zs ++ [.int .i64 g] := by simp [i1C]

/-- Ahead of each Snap. -/
def WA (B b : Nat) (w wr : World) (d : Int) (n i : Nat) (vg : Value) : Prop :=
  ∃ s, Rep B wr b 0 s ∧ InvI s d n i ∧ s.mv = .slice none 0 0 ∧ (∀ x ∈ s.ss, x.holds = 0) ∧ Fr [] w wr ∧ wr.ownsRow B 3 1 vg i (i1C (lst d i))

/-- Behind Mark. -/
def WB (B b : Nat) (w wr : World) (d : Int) (M hi mi : Nat) (vl : Value) (s : Sto) : Prop :=
  Rep B wr b 0 s ∧ WI s d M hi (gd d mi) ∧ s.ms.length ≤ 12 ∧ Fr [] w wr ∧ wr.ownsRow B 3 1 vl M (i1C (lst d M))
theorem WB.step0 {B b : Nat} {w wr w' : World} {d : Int} {M hi mi : Nat} {vl : Value} {s : Sto} (h : WB B b w wr d M hi mi vl s) (hf : Fr [] wr w') : WB B b w w' d M hi mi vl s :=
  ⟨h.1.kept0 hf, h.2.1, h.2.2.1, h.2.2.2.1.trans hf (by simp), own_fr h.2.2.2.2 hf (by simp)⟩
theorem WB.step {B b : Nat} {w wr w' : World} {d : Int} {M hi mi : Nat} {vl : Value} {s : Sto} (h : WB B b w wr d M hi mi vl s) (hB : B = w.heap.size) (hr : Rep B w' b 0 s) (hf : Fr (foot b s) wr w') : WB B b w w' d M hi mi vl s :=
  ⟨hr, h.2.1, h.2.2.1, h.2.2.2.1.trans hf (fun j hj => Or.inr (by rw [← hB]; exact (h.1.lt j hj).1)), own_fr h.2.2.2.2 hf (own_foot h.1 h.2.2.2.2 (by decide))⟩

theorem set_guid {l : List Sn} {j : Nat} {x : Sn} {z : Int} (hx : l[j]? = some x) (k : Nat) (hk : k < (l.set j (x.hold z)).length) : (l.set j (x.hold z))[k].guid = (l[k]'(by simpa using hk)).guid := by
  have hk' : k < l.length := by simpa using hk
  by_cases h : j = k
  · subst h
    rw [List.getElem?_eq_getElem hk'] at hx
    have e : l[j] = x := by simpa using hx
    rw [List.getElem_set_self, e]
    rfl
  · rw [List.getElem_set_ne h]
theorem setH_guid {s : Sto} {j : Nat} {x : Sn} {z : Int} (hx : s.ss[j]? = some x) (k : Nat) (hk : k < (s.setH j x z).ss.length) : (s.setH j x z).ss[k].guid = (s.ss[k]'(by simpa [Sto.setH] using hk)).guid := set_guid hx k hk

theorem wi_of {s : Sto} {d : Int} {n M hh : Nat} {x : Sn} (I : InvI s d n M) (hM : M ≤ 12) (hn : n ≤ 16) (h0 : ∀ y ∈ s.ss, y.holds = 0) (hx : s.ss[hh]? = some x) (g c gh : Int) (mv lv1 lv2 : Value) : WI ((((s.setH hh x (x.holds + 1)).noted 72 (n4 gh).ba lv1).mark1 g c mv).noted 77 (n4 g).ba lv2) d M hh g := by
  refine ⟨?_, fun k hk => ?_, fun k hk => ?_, rfl, ?_, ?_⟩
  · show (s.ss.set hh (x.hold (x.holds + 1))).length = M
    rw [List.length_set, I.ss]
  · simp only [Sto.noted, Sto.mark1, Sto.setH] at hk ⊢
    rw [set_guid hx k hk]
    exact I.gd k _
  · simp only [Sto.noted, Sto.mark1, Sto.setH] at hk ⊢
    have hk' : k < s.ss.length := by simpa using hk
    by_cases h : hh = k
    · subst h
      rw [List.getElem_set_self, if_pos rfl]
      rw [List.getElem?_eq_getElem hk'] at hx
      have e : s.ss[hh] = x := by simpa using hx
      have := h0 x (by rw [← e]; exact List.getElem_mem _)
      simp [Sn.hold, this]
    · rw [List.getElem_set_ne h, if_neg (Ne.symm h)]
      exact h0 _ (List.getElem_mem _)
  · show s.vol.length ≤ 16
    rw [I.vol]; exact hn
  · have := I.lg
    simp only [Sto.noted, Sto.mark1, Sto.setH, List.length_append]
    have e1 : (entry 72 (n4 gh).ba).length = 6 := rfl
    have e2 : (entry 77 (n4 g).ba).length = 6 := rfl
    omega

/-- In order. -/
theorem own_in {base : Nat} {w : World} {b B : Nat} {q : Int} {s : Sto} (h : Rep B w b q s) {ao : Option Addr} {n cap : Nat} {xs : List Value} (ho : w.ownsRow base 3 1 (.slice ao n cap) n xs) : ∀ k off, ao = some ⟨k, off, none⟩ → k ∉ foot b s := fun k off e =>
  own_foot h ho (by decide) k (by rw [e]; rfl)

theorem ours64 {d : Int} (hd : 1 ≤ d ∧ d ≤ 999) {M : Nat} (hM : M ≤ 12) {zs : List Int} (ho : Ours d M zs) : ∀ i, i < zs.length → In64 (tm zs i) := fun i hi => by
  obtain ⟨j, hj, e⟩ := ho i hi
  rw [e]
  unfold gd
  exact ⟨by omega, by omega⟩

/-- Behind a Destroy that was done. -/
structure WC (B b : Nat) (w wr : World) (M : Nat) (vl : Value) (s s3 : Sto) (zs : List Int) : Prop where
  rep : Rep B wr b 0 s3
  fr : Fr [] w wr
  ss : s3.ss = left s.ss zs
  ms : s3.ms = s.ms
  lg : s3.log.length ≤ 6000
  own : ∃ d, wr.ownsRow B 3 1 vl M (i1C (lst d M))

theorem des_zs {B b : Nat} {w W : World} {d : Int} {M hi mi C q : Nat} {vl : Value} {s : Sto} {za : Option Addr} {zc : Nat} {zs : List Int} (h : WB B b w W d M hi mi vl s) (hB : B = w.heap.size) (hd : 1 ≤ d ∧ d ≤ 999) (hM : M ≤ 12) (hl : zs.length = q) (hq : q ≤ 9) (ho : Ours d M zs) (hr : W.ownsRow C 3 1 (.slice za q zc) q (i1C zs)) :
    Calls Try.prog 27 #[.pointer (some ⟨b, 0, none⟩), .slice za q zc] W fun e w' => (dupB zs = true → e = .returned (.int .i64 3) ∧ WB B b w w' d M hi mi vl s) ∧ (dupB zs = false → (zs.any fun g => g == gd d hi) = true → e = .returned (.int .i64 4) ∧ WB B b w w' d M hi mi vl s) ∧
      (dupB zs = false → (zs.any fun g => g == gd d hi) = false → e = .returned (.int .i64 0) ∧ (left s.ss zs).length + q = M ∧ ∃ s3, WC B b w w' M vl s s3 zs) := by
  have hw := h.2.1
  have hD := destroy_any B b s za zs zc W h.1 (by rw [hw.len]; exact hM) hw.vol hw.nodup (own_rowG hl hr) (by omega) (ours64 hd hM ho) (fun k off e _ => own_in h.1 hr k off e) (by have := hw.lg; omega)
  rw [hl] at hD
  refine hD.mono ?_
  rintro e w' ⟨f, hc⟩
  have hF := fine_dup hw ho
  have hH := held_any hw ho
  rw [hl] at hF hH
  refine ⟨fun h1 => ?_, fun h1 h2 => ?_, fun h1 h2 => ?_⟩
  · rcases hc with ⟨rfl, _, r⟩ | ⟨_, hf, _⟩ | ⟨_, hf, _⟩
    · exact ⟨rfl, h.step hB r f⟩
    · rw [hF.1 hf] at h1; cases h1
    · rw [hF.1 hf] at h1; cases h1
  · rcases hc with ⟨_, ⟨k, hk, hf⟩, r⟩ | ⟨rfl, _, _, r⟩ | ⟨_, _, hn, _⟩
    · rw [hF.2 h1 k hk] at hf; cases hf
    · exact ⟨rfl, h.step hB r f⟩
    · rw [hH.1 hn] at h2; cases h2
  · rcases hc with ⟨_, ⟨k, hk, hf⟩, r⟩ | ⟨_, _, ⟨k, hk, hf⟩, _⟩ | ⟨rfl, hf, _, s3, p⟩
    · rw [hF.2 h1 k hk] at hf; cases hf
    · rw [hH.2 h2 k hk] at hf; cases hf
    · refine ⟨rfl, ?_, s3, p.rep, h.2.2.2.1.trans f (fun j hj => Or.inr (by rw [← hB]; exact (h.1.lt j hj).1)), p.ss, p.ms, ?_, d, own_fr h.2.2.2.2 f (own_foot h.1 h.2.2.2.2 (by decide))⟩
      · have := left_len hw.nodup (zs := zs) zs.length (Nat.le_refl _) (by rw [hl]; exact hf)
        rw [List.take_length, hl, hw.len] at this
        exact this
      · rw [p.log, List.length_append]
        have := hw.lg
        have e : (if zs = [] then [] else entry 68 (gtext zs)).length ≤ 100 := by
          split
          · simp
          · have : (entry 68 (gtext zs)).length = 2 + (gtext zs).size := by
              simp only [entry, List.length_cons, Array.length_toList]
              have : (gtext zs).data.size = (gtext zs).size := rfl
              omega
            rw [this, gtext_len]
            omega
        omega

theorem des_one {B b : Nat} {w W : World} {d : Int} {M hi mi C q : Nat} {vl : Value} {s : Sto} {za : Option Addr} {zc : Nat} {zs : List Int} (h : WB B b w W d M hi mi vl s) (hB : B = w.heap.size) (hd : 1 ≤ d ∧ d ≤ 999) (hM : M ≤ 12) (hl : zs.length = q) (hq : q ≤ 9) (ho : Ours d M zs) (hr : W.ownsRow C 3 1 (.slice za (q + 1) zc) (q + 1) (i1C (zs ++ [1]))) :
    Calls Try.prog 27 #[.pointer (some ⟨b, 0, none⟩), .slice za (q + 1) zc] W fun e w' => e = .returned (.int .i64 3) ∧ WB B b w w' d M hi mi vl s ∧ Fr (foot b s) W w' := by
  have hw := h.2.1
  have hl1 : (zs ++ [1]).length = q + 1 := by simp [hl]
  have hb1 : ∀ i, i < (zs ++ [1]).length → In64 (tm (zs ++ [1]) i) := fun i hi' => by
    by_cases hlt : i < zs.length
    · rw [tm_app hlt]; exact ours64 hd hM ho i hlt
    · have : i = zs.length := by simp at hi'; omega
      rw [this, tm_last]
      exact ⟨by omega, by omega⟩
  have hD := destroy_any B b s za (zs ++ [1]) zc W h.1 (by rw [hw.len]; exact hM) hw.vol hw.nodup (own_rowG hl1 hr) (by omega) hb1 (fun k off e _ => own_in h.1 hr k off e) (by have := hw.lg; omega)
  rw [hl1] at hD
  refine hD.mono ?_
  rintro e w' ⟨f, hc⟩
  have hbad : fineAt s.ss (zs ++ [1]) q = false := by
    unfold fineAt
    have : s.ss.any (isG (tm (zs ++ [1]) q)) = false := by
      rw [← hl, tm_last, List.any_eq_false]
      intro x hx
      obtain ⟨k, hk, rfl⟩ := List.getElem_of_mem hx
      have := hw.gd k hk
      simp [isG, this, gd]
      omega
    rw [this]
    rfl
  rcases hc with ⟨rfl, _, r⟩ | ⟨_, hf, _⟩ | ⟨_, hf, _⟩
  · exact ⟨rfl, h.step hB r f, f⟩
  · rw [hf q (by omega)] at hbad; cases hbad
  · rw [hf q (by omega)] at hbad; cases hbad

/-- The held one can be released. -/
theorem rel_ready {s : Sto} {d : Int} {M hi : Nat} {m : Int} (h : WI s d M hi m) (hhi : hi < M) {zs : List Int} (hn : (zs.any fun g => g == gd d hi) = false) : ∃ (j : Nat) (x : Sn), fi (fun y : Sn => y.guid == gd d hi) 0 (left s.ss zs) = (j : Int) ∧ (left s.ss zs)[j]? = some x ∧ x.holds = 1 := by
  have hj : hi < s.ss.length := by rw [h.len]; exact hhi
  have hg := h.gd hi hj
  have hm : s.ss[hi] ∈ left s.ss zs := by
    unfold left
    rw [List.mem_filter]
    refine ⟨List.getElem_mem _, ?_⟩
    simp only [Bool.not_eq_true', List.any_eq_false]
    intro z hz hh
    have h1 : s.ss[hi].guid = z := by simpa [isG] using hh
    have h2 := List.any_eq_false.1 hn z hz
    rw [hg] at h1
    exact h2 (by simp [h1])
  obtain ⟨j, hjl, e, hp⟩ := fi_some (p := fun y : Sn => y.guid == gd d hi) (left s.ss zs) 0 ⟨_, hm, by simp [hg]⟩
  refine ⟨j, (left s.ss zs)[j], by rw [e, Nat.zero_add], List.getElem?_eq_getElem hjl, ?_⟩
  have hx : (left s.ss zs)[j] ∈ s.ss := (List.mem_filter.1 (List.getElem_mem hjl)).1
  obtain ⟨i, hi', ei⟩ := List.getElem_of_mem hx
  have h3 : (left s.ss zs)[j].guid = gd d hi := by simpa using hp
  rw [← ei, h.gd i hi'] at h3
  have := gd_inj h3
  rw [← ei, h.hd i hi', if_pos this]

theorem WB.snaps {B b : Nat} {w W : World} {d : Int} {M hi mi : Nat} {vl : Value} {s : Sto} (h : WB B b w W d M hi mi vl s) (hB : B = w.heap.size) (hM : M ≤ 12) :
    Calls Try.prog 23 #[.pointer (some ⟨b, 0, none⟩)] W fun e w' => ∃ gg, e = .returned (.slice (some ⟨gg, 0, none⟩) M M) ∧ WB B b w w' d M hi mi vl s ∧ Fr (foot b s) W w' := by
  have := snaps_any B b s W h.1 (by rw [h.2.1.len]; exact hM)
  rw [h.2.1.len] at this
  refine this.mono ?_
  rintro e w' ⟨gg, rfl, _, _, r, f⟩
  exact ⟨gg, rfl, h.step hB r f, f⟩
theorem WB.marks {B b : Nat} {w W : World} {d : Int} {M hi mi : Nat} {vl : Value} {s : Sto} (h : WB B b w W d M hi mi vl s) (hB : B = w.heap.size) :
    Calls Try.prog 28 #[.pointer (some ⟨b, 0, none⟩)] W fun e w' => ∃ gg, e = .returned (.slice (some ⟨gg, 0, none⟩) 1 1) ∧ w'.cell? ⟨gg, 0, none⟩ = some (.int .i64 (gd d mi)) ∧ WB B b w w' d M hi mi vl s := by
  have hl : s.ms.length = 1 := by
    have := congrArg List.length h.2.1.ms
    simpa using this
  have := marks_any B b s W h.1 (by omega)
  rw [hl, h.2.1.ms] at this
  refine this.mono ?_
  rintro e w' ⟨gg, rfl, _, hg, r, f⟩
  exact ⟨gg, rfl, by rw [cell_of hg]; simp [i1C], h.step hB r f⟩

theorem WC.step {B b : Nat} {w W w' : World} {M : Nat} {vl : Value} {s s3 : Sto} {zs : List Int} (h : WC B b w W M vl s s3 zs) (hB : B = w.heap.size) (hr : Rep B w' b 0 s3) (hf : Fr (foot b s3) W w') : WC B b w w' M vl s s3 zs := by
  obtain ⟨d, ho⟩ := h.own
  exact ⟨hr, h.fr.trans hf (fun j hj => Or.inr (by rw [← hB]; exact (h.rep.lt j hj).1)), h.ss, h.ms, h.lg, d, own_fr ho hf (own_foot h.rep ho (by decide))⟩
theorem WC.snaps {B b : Nat} {w W : World} {M L : Nat} {vl : Value} {s s3 : Sto} {zs : List Int} (h : WC B b w W M vl s s3 zs) (hB : B = w.heap.size) (hL : (left s.ss zs).length = L) (hL2 : L ≤ 12) :
    Calls Try.prog 23 #[.pointer (some ⟨b, 0, none⟩)] W fun e w' => ∃ gg, e = .returned (.slice (some ⟨gg, 0, none⟩) L L) ∧ WC B b w w' M vl s s3 zs := by
  have hl : s3.ss.length = L := by rw [h.ss, hL]
  have := snaps_any B b s3 W h.rep (by omega)
  rw [hl] at this
  refine this.mono ?_
  rintro e w' ⟨gg, rfl, _, _, r, f⟩
  exact ⟨gg, rfl, h.step hB r f⟩
theorem WC.marks {B b : Nat} {w W : World} {M : Nat} {vl : Value} {s s3 : Sto} {zs : List Int} {m : Int} (h : WC B b w W M vl s s3 zs) (hB : B = w.heap.size) (hm : s.ms.map Prod.fst = [m]) :
    Calls Try.prog 28 #[.pointer (some ⟨b, 0, none⟩)] W fun e w' => ∃ gg, e = .returned (.slice (some ⟨gg, 0, none⟩) 1 1) ∧ w'.cell? ⟨gg, 0, none⟩ = some (.int .i64 m) ∧ WC B b w w' M vl s s3 zs := by
  have hl : s3.ms.length = 1 := by
    rw [h.ms]
    have := congrArg List.length hm
    simpa using this
  have := marks_any B b s3 W h.rep (by omega)
  rw [hl, h.ms, hm] at this
  refine this.mono ?_
  rintro e w' ⟨gg, rfl, _, hg, r, f⟩
  exact ⟨gg, rfl, by rw [cell_of hg]; simp [i1C], h.step hB r f⟩
/-- Release, and once more. -/
theorem WC.release {B b : Nat} {w W : World} {M : Nat} {vl : Value} {s s3 : Sto} {zs : List Int} {g : Int} {j : Nat} {x : Sn} (h : WC B b w W M vl s s3 zs) (hB : B = w.heap.size) (hl : (left s.ss zs).length ≤ 12) (hf : fi (fun y : Sn => y.guid == g) 0 (left s.ss zs) = (j : Int)) (hx : (left s.ss zs)[j]? = some x) (h1 : x.holds = 1) :
    Calls Try.prog 29 #[.pointer (some ⟨b, 0, none⟩), .int .i64 g] W fun e w' => e = .returned (.int .i64 0) ∧ Fr [] w w' ∧ Calls Try.prog 29 #[.pointer (some ⟨b, 0, none⟩), .int .i64 g] w' fun e w'' => e = .returned (.int .i64 1) ∧ Fr [] w w'' := by
  have hs := h.ss
  have hf3 : fi (fun y : Sn => y.guid == g) 0 s3.ss = (j : Int) := by rw [hs]; exact hf
  have hx3 : s3.ss[j]? = some x := by rw [hs]; exact hx
  have hl3 : s3.ss.length ≤ 12 := by rw [hs]; exact hl
  refine (release_ok B b s3 g j x W h.rep hl3 hf3 hx3 (by omega) (by have := h.lg; omega)).mono ?_
  rintro e w' ⟨rfl, lv, r, f, _⟩
  have fr1 : Fr [] w w' := h.fr.trans f (fun k hk => Or.inr (by rw [← hB]; exact (h.rep.lt k hk).1))
  refine ⟨rfl, fr1, ?_⟩
  have hj : j < s3.ss.length := (List.getElem?_eq_some_iff.1 hx3).1
  refine (release_bad B b ((s3.setH j x (x.holds - 1)).noted 82 (n4 g).ba lv) g j (x.hold (x.holds - 1)) w' r (by simpa [Sto.noted, Sto.setH] using hl3) (by rw [Sto.noted, Sto.setH, fi_setH hx3]; exact hf3) (by simp [Sto.noted, Sto.setH, hj]) (by simp [Sn.hold, h1])).mono ?_
  rintro e w'' ⟨rfl, r2, f2⟩
  exact ⟨rfl, fr1.trans f2 (fun k hk => Or.inr (by rw [← hB]; exact (r.lt k hk).1))⟩
end Go.Proofs.Ythdhegmlknpllaa
