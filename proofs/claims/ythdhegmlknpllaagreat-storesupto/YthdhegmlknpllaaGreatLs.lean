/-
  The law's whole state in memory: three sides, the lists that came out.
-/
import Derived.Test.YthdhegmlknpllaaGreatDst
namespace Go.Proofs.YthdhegmlknpllaaGreat
open Go.RowKit Go.Maps Go.MuLone

structure SdR where
  db : Nat
  b : Nat
  rb : Nat
  s : Sto
  r : RSto
def SdR.ft (x : SdR) : List Nat := sft x.b x.rb x.s x.r
structure LS (w0 : World) (B : Nat) (w : World) (wb : Nat) (sv kv mv : Value) (sds : List SdR) (K M : List (Nat × Nat × Nat)) (q : Nat) : Prop where
  wm : WM B w wb sv kv mv (sds.map SdR.db) K M
  sd : ∀ (i : Nat) (x : SdR), sds[i]? = some x → SD B w x.db x.b x.rb x.s x.r ∧ Sim x.s x.r q
  dj : ∀ (i j : Nat) (x y : SdR), i ≠ j → sds[i]? = some x → sds[j]? = some y → ∀ k ∈ x.ft, k ∉ y.ft
  k4 : K.length % 4 = 0 ∧ M.length % 4 = 0
  kl : K.length ≤ 4 * q ∧ M.length ≤ 4 * q
  kb : (∀ x ∈ K, x.2.1 ≤ 16) ∧ (∀ x ∈ M, x.2.1 ≤ 16)
  be : Below B w0 w
/-- Behind a step. -/
def LP (w0 : World) (B : Nat) (w' : World) (wb : Nat) (sv : Value) (D : List Nat) (q : Nat) : Prop := ∃ kv mv sds K M, LS w0 B w' wb sv kv mv sds K M q ∧ sds.map SdR.db = D

section
variable {w0 : World} {B : Nat} {w w' : World} {wb : Nat} {sv kv mv : Value} {sds : List SdR} {K M : List (Nat × Nat × Nat)} {q : Nat}
theorem sft_tags {b rb : Nat} {s : Sto} {r : RSto} {db : Nat} (h : SD B w db b rb s r) : ∀ j ∈ sft b rb s r, ∀ cur t, w.heap[j]? = some (.cells cur t (0, 0)) → t = 76 ∨ t = 112 ∨ t = 119 ∨ t = 125 ∨ t = 5 ∨ t = 86 ∨ t = 117 ∨ t = 129 := fun j hj cur t e => by
  rcases List.mem_append.1 hj with hj | hj
  · rcases foot_tag h.rep hj e with h | h | h | h | h
    · exact Or.inl h
    · exact Or.inr (Or.inl h)
    · exact Or.inr (Or.inr (Or.inl h))
    · exact Or.inr (Or.inr (Or.inr (Or.inl h)))
    · exact Or.inr (Or.inr (Or.inr (Or.inr (Or.inl h))))
  · rcases rfoot_tag h.rrep hj e with h | h | h
    · exact Or.inr (Or.inr (Or.inr (Or.inr (Or.inr (Or.inl h)))))
    · exact Or.inr (Or.inr (Or.inr (Or.inr (Or.inr (Or.inr (Or.inl h))))))
    · exact Or.inr (Or.inr (Or.inr (Or.inr (Or.inr (Or.inr (Or.inr h))))))
theorem LS.hB (h : LS w0 B w wb sv kv mv sds K M q) : B ≤ w.heap.size := by
  have h1 := h.wm.hw
  have h2 := (Array.getElem?_eq_some_iff.1 h.wm.blk).1
  omega
theorem LS.same (h : LS w0 B w wb sv kv mv sds K M q) (hf : Fr [] w w') : LS w0 B w' wb sv kv mv sds K M q :=
  ⟨h.wm.same hf, fun i x hx => ⟨(h.sd i x hx).1.same hf, (h.sd i x hx).2⟩, h.dj, h.k4, h.kl, h.kb, h.be.trans (hf.below h.hB (by simp))⟩
theorem LS.up (h : LS w0 B w wb sv kv mv sds K M q) : LS w0 B w wb sv kv mv sds K M (q + 1) :=
  ⟨h.wm, fun i x hx => ⟨(h.sd i x hx).1, (h.sd i x hx).2.le (by omega)⟩, h.dj, h.k4, ⟨by have := h.kl.1; omega, by have := h.kl.2; omega⟩, h.kb, h.be⟩
/-- A call on both stores of one side. -/
theorem LS.side (h : LS w0 B w wb sv kv mv sds K M q) {i : Nat} {x : SdR} (hx : sds[i]? = some x) (hn : SN B w w' x.db x.b x.rb x.s x.r q) : LP w0 B w' wb sv (sds.map SdR.db) (q + 1) := by
  obtain ⟨s', r', sd', m', f, g⟩ := hn
  have hil : i < sds.length := (List.getElem?_eq_some_iff.1 hx).1
  have ex : sds[i] = x := (List.getElem?_eq_some_iff.1 hx).2
  have hD : (sds.set i ⟨x.db, x.b, x.rb, s', r'⟩).map SdR.db = sds.map SdR.db := by
    rw [List.map_set]
    have e : (⟨x.db, x.b, x.rb, s', r'⟩ : SdR).db = (sds.map SdR.db)[i]'(by simpa using hil) := by rw [List.getElem_map, ex]
    rw [e, List.set_getElem_self]
  have sdi := (h.sd i x hx).1
  have tg := sft_tags sdi
  refine ⟨kv, mv, sds.set i ⟨x.db, x.b, x.rb, s', r'⟩, K, M, ⟨?_, fun j y hy => ?_, fun j1 j2 y1 y2 hne h1 h2 => ?_, h.k4, ⟨by have := h.kl.1; omega, by have := h.kl.2; omega⟩, h.kb, h.be.trans (f.below h.hB (fun k hk => (sdi.lt k hk).1))⟩, hD⟩
  · rw [hD]
    exact h.wm.fr f (fun j hj cur t e => by rcases tg j hj cur t e with h | h | h | h | h | h | h | h <;> subst h <;> decide)
  · by_cases e : j = i
    · subst e
      rw [List.getElem?_set_self hil] at hy
      cases hy
      exact ⟨sd', m'⟩
    · rw [List.getElem?_set_ne (Ne.symm e)] at hy
      have hj := h.sd j y hy
      refine ⟨hj.1.fr f (fun k hk hm => h.dj j i y x e hy hx k hk hm) (fun hm => ?_), hj.2.le (by omega)⟩
      have := tg y.db hm _ _ hj.1.blk
      simp at this
  · by_cases e1 : j1 = i
    · subst e1
      have e2 : j2 ≠ j1 := Ne.symm hne
      rw [List.getElem?_set_self hil] at h1
      rw [List.getElem?_set_ne (Ne.symm e2)] at h2
      cases h1
      intro k hk hm
      rcases g k hk with h3 | h3
      · exact h.dj j1 j2 x y2 hne hx h2 k h3 hm
      · have := ((h.sd j2 y2 h2).1.lt k hm).2
        omega
    · rw [List.getElem?_set_ne (Ne.symm e1)] at h1
      by_cases e2 : j2 = i
      · subst e2
        rw [List.getElem?_set_self hil] at h2
        cases h2
        intro k hk hm
        rcases g k hm with h3 | h3
        · exact h.dj j1 j2 y1 x hne h1 hx k hk h3
        · have := ((h.sd j1 y1 h1).1.lt k hk).2
          omega
      · rw [List.getElem?_set_ne (Ne.symm e2)] at h2
        exact h.dj j1 j2 y1 y2 hne h1 h2
/-- Where blocks of the law's own types are written, the sides stay. -/
theorem LS.sides (h : LS w0 B w wb sv kv mv sds K M q) {F : List Nat} (hf : Fr F w w') (ht : ∀ j ∈ F, ∃ cur t, w.heap[j]? = some (.cells cur t (0, 0)) ∧ (t = 34 ∨ t = 39 ∨ t = 62 ∨ t = 3 ∨ t = 61)) : ∀ (i : Nat) (x : SdR), sds[i]? = some x → SD B w' x.db x.b x.rb x.s x.r ∧ Sim x.s x.r q := fun i x hx => by
  have hs := h.sd i x hx
  refine ⟨hs.1.fr hf (fun k hk hm => ?_) (fun hm => ?_), hs.2⟩
  · obtain ⟨cur, t, e, ht'⟩ := ht k hm
    refine hs.1.no e ?_ hk
    rcases ht' with rfl | rfl | rfl | rfl | rfl <;> decide
  · obtain ⟨cur, t, e, ht'⟩ := ht _ hm
    have h8 := hs.1.blk
    unfold sdO at h8
    rw [e] at h8
    simp at h8
    have h9 := h8.2
    rcases ht' with rfl | rfl | rfl | rfl | rfl <;> cases h9
/-- A list of marks is kept. -/
theorem LS.keepM (h : LS w0 B w wb sv kv mv sds K M q) {gg : Nat} {cur : Array Value} (hg : w.heap[gg]? = some (.cells cur 3 (0, 0))) (hBg : B ≤ gg) (hp : KmPost B w w' wb gg sv kv mv (sds.map SdR.db) K M) : LP w0 B w' wb sv (sds.map SdR.db) (q + 1) := by
  obtain ⟨mv', M', hl, wm', f, hm⟩ := hp
  have hs := h.sides f (fun j hj => by
    rcases List.mem_cons.1 hj with rfl | hj
    · exact ⟨_, _, h.wm.blk, Or.inl rfl⟩
    · rcases List.mem_cons.1 hj with rfl | hj
      · exact ⟨_, _, hg, Or.inr (Or.inr (Or.inr (Or.inl rfl)))⟩
      · simp at hj
        obtain ⟨_, cur', e⟩ := own_tag h.wm.mo hj
        exact ⟨_, _, e, Or.inr (Or.inl rfl)⟩)
  have k4 := h.k4
  have kl := h.kl
  exact ⟨kv, mv', sds, K, M', ⟨wm', fun i x hx => ⟨(hs i x hx).1, (hs i x hx).2.le (by omega)⟩, h.dj, ⟨k4.1, by omega⟩, ⟨by omega, by omega⟩, ⟨h.kb.1, fun x hx => by
    rcases hm x hx with h1 | h1
    · exact h.kb.2 x h1
    · exact h1⟩, h.be.trans (f.below h.hB (fun k hk => by
      rcases List.mem_cons.1 hk with rfl | hk
      · exact h.wm.hw
      · rcases List.mem_cons.1 hk with rfl | hk
        · exact hBg
        · simp at hk
          exact (own_tag h.wm.mo hk).1))⟩, rfl⟩
/-- A list of snapshots is kept. -/
theorem LS.keepK (h : LS w0 B w wb sv kv mv sds K M q) {gg : Nat} {cur : Array Value} (hg : w.heap[gg]? = some (.cells cur 61 (0, 0))) (hBg : B ≤ gg) (hp : KsPost B w w' wb gg sv mv kv (sds.map SdR.db) M K) : LP w0 B w' wb sv (sds.map SdR.db) (q + 1) := by
  obtain ⟨kv', K', hl, wm', f, hm⟩ := hp
  have hs := h.sides f (fun j hj => by
    rcases List.mem_cons.1 hj with rfl | hj
    · exact ⟨_, _, h.wm.blk, Or.inl rfl⟩
    · rcases List.mem_cons.1 hj with rfl | hj
      · exact ⟨_, _, hg, Or.inr (Or.inr (Or.inr (Or.inr rfl)))⟩
      · simp at hj
        obtain ⟨_, cur', e⟩ := own_tag h.wm.ko hj
        exact ⟨_, _, e, Or.inr (Or.inr (Or.inl rfl))⟩)
  have k4 := h.k4
  have kl := h.kl
  exact ⟨kv', mv, sds, K', M, ⟨wm', fun i x hx => ⟨(hs i x hx).1, (hs i x hx).2.le (by omega)⟩, h.dj, ⟨by omega, k4.2⟩, ⟨by omega, by omega⟩, ⟨fun x hx => by
    rcases hm x hx with h1 | h1
    · exact h.kb.1 x h1
    · exact h1, h.kb.2⟩, h.be.trans (f.below h.hB (fun k hk => by
      rcases List.mem_cons.1 hk with rfl | hk
      · exact h.wm.hw
      · rcases List.mem_cons.1 hk with rfl | hk
        · exact hBg
        · simp at hk
          exact (own_tag h.wm.ko hk).1))⟩, rfl⟩
end
end Go.Proofs.YthdhegmlknpllaaGreat
