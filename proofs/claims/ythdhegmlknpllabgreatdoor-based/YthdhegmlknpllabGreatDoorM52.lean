import Derived.Test.YthdhegmlknpllabGreatDoorM46
import Derived.Test.YthdhegmlknpllabGreatDoorM37
import Derived.Test.YthdhegmlknpllabGreatDoorM16
/-
  A fresh net: the invariant at its start; one replica more in memory.
-/
namespace Go.Proofs.YthdhegmlknpllabGreatDoor
open Go.RowKit Go.Maps Go.MuLone

theorem newS_log (id : Int) (n vb mb : Nat) (lv : Value) (hq : 1 ≤ n) : (newS id n vb mb lv).log.length ≤ 1000 := (newS_RP id n vb mb lv hq).lg
theorem NInv.start (n m vb mb : Nat) (lv : Value) (T : Int) (Rs : List Sto) (hn : 1 ≤ n ∧ n ≤ 4) (hm : m ≤ 3) (hl : Rs.length = m) (hR : ∀ R ∈ Rs, R.ss = [] ∧ RP R n 1) : NInv n (newS 1 n vb mb lv) (List.replicate m Pe.zero) [] Rs [] T 1 := by
  have e1 : (newS 1 n vb mb lv).ss = [] := rfl
  have e2 : (newS 1 n vb mb lv).ms = [] := rfl
  have hv : ∀ j, ((newS 1 n vb mb lv).vol.getD j Ct.zero).n = 0 := fun j => by
    simp [newS, Sto.noted, Sto.fresh, List.getD_eq_getElem?_getD, List.getElem?_replicate]
    split <;> rfl
  have hg : ∀ g, ¬ Gv ([] : List Img).length g := fun g h => by
    have h1 := h.1
    have h2 := h.2
    simp at h2
    omega
  refine ⟨hn, ⟨rfl, by simp [newS, Sto.noted, Sto.fresh], rfl, rfl, by simp, by rw [e1]; simp, by rw [e1]; simp, by rw [e1]; simp, by rw [e1]; rfl, by rw [e1]; simp, by rw [e2]; simp, by rw [e2]; simp, fun j _ => by rw [hv j]; exact Int.le_refl _, fun g j h => absurd h (hg g), by rw [e1]; simp, by rw [e1]; simp⟩, by simpa using hm, by simpa using hl, fun i p R h1 h2 => ?_, fun R h => ⟨(hR R h).2, by rw [(hR R h).1]; simp, by rw [(hR R h).1]; simp⟩, by simp, newS_log 1 n vb mb lv hn.1, by show _ ≤ _; exact (newS_RP 1 n vb mb lv hn.1).cnt, by simp, by simp⟩
  have hp : p = Pe.zero := by
    have := List.mem_of_getElem? h1
    simpa using (List.mem_replicate.1 this).2
  subst hp
  have hr : lastG R.ss = 0 := by
    rw [(hR R (List.mem_of_getElem? h2)).1]
    rfl
  rw [hr]
  exact ⟨Or.inl rfl, Or.inl rfl, rfl, ⟨by decide, by decide⟩, ⟨by decide, by decide⟩, Or.inl rfl, fun h => absurd rfl h, Or.inl rfl⟩

section
variable {nb BN n : Nat} {c : SCfg} {rcs : List RCfg} {W W' : World} {S : Sto} {ti : Int} {ps : List Pe} {im : List Img} {Rs : List Sto} {way : List (Nat × Lt)} {rv wv iv : Value} {vs : List Value}
/-- One replica more: it lies at W.heap.size or above; then it is written down. -/
theorem NM.addRep (h : NM nb BN n c rcs W S ti ps im Rs way rv wv iv vs) {r : RCfg} {R : Sto} (hr : RM r W R) (hB : ∀ k ∈ foot r.b R, k ∉ foot c.b S) (hD : ∀ (i : Nat) (r' : RCfg) (R' : Sto), rcs[i]? = some r' → Rs[i]? = some R' → ∀ k ∈ foot r.b R, k ∉ foot r'.b R') {W9 : World} (hg : W.grownBy W9 rv.ownBlock) {rv' : Value} (ho : W9.ownsRow BN 46 1 rv' (rcs.length + 1) (rpC rcs ++ [.pointer (some ⟨r.kb, 0, none⟩)])) : NM nb BN n c (rcs ++ [r]) (W9.setCell ⟨nb, 1, none⟩ rv') S ti ps im (Rs ++ [R]) way rv' wv iv vs := by
  have ht : ∀ j, rv.ownBlock = some j → ∃ cur, W.heap[j]? = some (.cells cur 46 (0, 0)) := fun j hj => (own_tag h.ro hj).2
  have hf : Fr rv.ownBlock.toList W W9 := (Fr.refl _ _).grown hg (fun k hk => Or.inl (by simp [hk]))
  have hnF : nb ∉ rv.ownBlock.toList := fun hm => by
    simp at hm
    obtain ⟨cur, e⟩ := ht nb hm
    rw [h.blk] at e
    simp at e
  have b9 : W9.heap[nb]? = some (.cells #[.pointer (some ⟨c.xb, 0, none⟩), rv, .int .i64 n, wv, iv] 32 (0, 0)) := by rw [hf.block nb (Array.getElem?_eq_some_iff.1 h.blk).1 hnF]; exact h.blk
  have hf2 : Fr (nb :: rv.ownBlock.toList) W (W9.setCell ⟨nb, 1, none⟩ rv') := (hf.mono (fun k hk => List.mem_cons_of_mem _ hk)).setCell _ (Or.inl (by simp))
  have hno : ∀ t : TypeId, t ≠ 32 → t ≠ 46 → ∀ j ∈ nb :: rv.ownBlock.toList, ∀ cur, W.heap[j]? ≠ some (.cells cur t (0, 0)) := fun t h1 h2 j hj cur e => by
    rcases List.mem_cons.1 hj with rfl | hj
    · rw [h.blk] at e
      simp at e
      exact h1 e.2.symm
    · simp at hj
      obtain ⟨cur', e'⟩ := ht j hj
      rw [e'] at e
      simp at e
      exact h2 e.2.symm
  have tg : ∀ j ∈ nb :: rv.ownBlock.toList, ∀ cur t, W.heap[j]? = some (.cells cur t (0, 0)) → t = 32 ∨ t = 46 := fun j hj cur t e => by
    rcases List.mem_cons.1 hj with rfl | hj
    · rw [h.blk] at e
      simp at e
      exact Or.inl e.2.symm
    · simp at hj
      obtain ⟨cur', e'⟩ := ht j hj
      rw [e'] at e
      simp at e
      exact Or.inr e.2.symm
  have hm : ∀ j ∈ nb :: rv.ownBlock.toList, ∃ cur t, W.heap[j]? = some (.cells cur t (0, 0)) := fun j hj => by
    rcases List.mem_cons.1 hj with rfl | hj
    · exact ⟨_, _, h.blk⟩
    · simp at hj
      obtain ⟨cur', e'⟩ := ht j hj
      exact ⟨_, _, e'⟩
  have apart : ∀ {B b : Nat} {s : Sto}, Rep B W b 0 s → ∀ k ∈ foot b s, k ∉ nb :: rv.ownBlock.toList := fun {B b s} hrep k hk hk2 => by
    obtain ⟨cur, t, e⟩ := hm k hk2
    have h1 := tg k hk2 cur t e
    have h2 := foot_tag hrep hk e
    rcases h1 with rfl | rfl <;> simp at h2
  have hRM : ∀ {r2 : RCfg} {R2 : Sto}, RM r2 W R2 → RM r2 (W9.setCell ⟨nb, 1, none⟩ rv') R2 := fun {r2 R2} hr2 => hr2.fr hf2 (apart hr2.rk.rep) (fun j hj cur t e => by rcases tg j hj cur t e with rfl | rfl <;> decide)
  have hget : ∀ {j : Nat} {r2 : RCfg} {R2 : Sto}, (rcs ++ [r])[j]? = some r2 → (Rs ++ [R])[j]? = some R2 → (rcs[j]? = some r2 ∧ Rs[j]? = some R2) ∨ (j = rcs.length ∧ r2 = r ∧ R2 = R) := fun {j r2 R2} h1 h2 => by
    have hl := h.rl
    rcases Nat.lt_or_ge j rcs.length with hj | hj
    · rw [List.getElem?_append_left hj] at h1
      rw [List.getElem?_append_left (by omega)] at h2
      exact Or.inl ⟨h1, h2⟩
    · have hj2 : j < (rcs ++ [r]).length := (List.getElem?_eq_some_iff.1 h1).1
      rw [List.length_append, List.length_singleton] at hj2
      have hj3 : j = rcs.length := by omega
      subst hj3
      rw [List.getElem?_append_right (Nat.le_refl _)] at h1
      rw [List.getElem?_append_right (by omega)] at h2
      simp [hl] at h1 h2
      exact Or.inr ⟨rfl, h1.symm, h2.symm⟩
  refine ⟨SK.fr h.sk hf2 (apart h.sk.rep) (fun j hj cur t e => by rcases tg j hj cur t e with rfl | rfl <;> decide), by simp [h.rl], fun j r2 R2 h1 h2 => ?_, fun j r2 R2 h1 h2 => ?_, fun j j' r2 R2 r3 R3 hne h1 h2 h3 h4 => ?_, ?_, ?_, own_tagged h.wo hf2 (hno 108 (by decide) (by decide)), own_tagged h.io hf2 (hno 60 (by decide) (by decide)), fun j hj => own_tagged (h.vo j hj) hf2 (hno 9 (by decide) (by decide)), h.vl, h.hnb⟩
  · rcases hget h1 h2 with ⟨a, b⟩ | ⟨_, rfl, rfl⟩
    · exact hRM (h.rm j r2 R2 a b)
    · exact hRM hr
  · rcases hget h1 h2 with ⟨a, b⟩ | ⟨_, rfl, rfl⟩
    · exact h.dS j r2 R2 a b
    · exact hB
  · rcases hget h1 h2 with ⟨a, b⟩ | ⟨e1, rfl, rfl⟩
    · rcases hget h3 h4 with ⟨a', b'⟩ | ⟨_, rfl, rfl⟩
      · exact h.dR j j' r2 R2 r3 R3 hne a b a' b'
      · exact fun k hk hk2 => hD j r2 R2 a b k hk2 hk
    · rcases hget h3 h4 with ⟨a', b'⟩ | ⟨e2, rfl, rfl⟩
      · exact hD j' r3 R3 a' b'
      · exact absurd (e1.trans e2.symm) hne
  · rw [heap_setCell_same _ _ _ _ _ _ b9]
    rfl
  · rw [List.length_append, List.length_singleton]
    have e5 : rpC (rcs ++ [r]) = rpC rcs ++ [.pointer (some ⟨r.kb, 0, none⟩)] := by simp [rpC]
    rw [e5]
    refine own_fr (F := [nb]) ho ((Fr.refl _ _).setCell _ (Or.inl (by simp))) (fun j hj hm2 => ?_)
    simp at hm2
    obtain ⟨_, cur, h4⟩ := own_tag ho hj
    rw [hm2, b9] at h4
    simp at h4
end
end Go.Proofs.YthdhegmlknpllabGreatDoor

/-
  The letters that start sends and awaits.
-/
namespace Go.Proofs.YthdhegmlknpllabGreatDoor
open Go.RowKit Go.Maps Go.MuLone

theorem ask_txt (j : Nat) (yj : UInt8) (h : (j : Int) = (yj.toNat : Int)) (hj : j < 3) : ofL (lhead 65 j 9) = (⟨#[65]⟩ ++ ⟨#[yj, 0, 0, 0, 9]⟩ : ByteArray) ∧ ofL (lhead 72 j 9 ++ (n4 0).list') = (⟨#[72]⟩ ++ ⟨#[yj, 0, 0, 0, 9, 0, 0, 0, 0]⟩ : ByteArray) := by
  have e : yj = UInt8.ofNat j := by
    apply UInt8.toNat_inj.1
    rw [UInt8.toNat_ofNat']
    omega
  subst e
  rcases (by omega : j = 0 ∨ j = 1 ∨ j = 2) with rfl | rfl | rfl
  · exact ⟨by decide, by decide⟩
  · exact ⟨by decide, by decide⟩
  · exact ⟨by decide, by decide⟩
end Go.Proofs.YthdhegmlknpllabGreatDoor

/-
  The walk of tetherkeep's start (6).
-/
namespace Go.Proofs.YthdhegmlknpllabGreatDoor
open Go.RowKit Go.Maps Go.MuLone

theorem conv5 {w : World} {vb : Nat} {y0 y1 y2 y3 y4 : UInt8} (h0 : w.cell? ⟨vb, 0, none⟩ = some (u8 y0)) (h1 : w.cell? ⟨vb, 1, none⟩ = some (u8 y1)) (h2 : w.cell? ⟨vb, 2, none⟩ = some (u8 y2)) (h3 : w.cell? ⟨vb, 3, none⟩ = some (u8 y3)) (h4 : w.cell? ⟨vb, 4, none⟩ = some (u8 y4)) : (convert 50 9 (.slice (some ⟨vb, 0, none⟩) 5 5)).run Tryz.prog w = .ok (.string ⟨#[y0, y1, y2, y3, y4]⟩) w := by
  have := run_convert_bytes_back (P := Tryz.prog) w 50 9 5 ⟨vb, 0, none⟩ 5 [y0, y1, y2, y3, y4] Tryz.underlying50 Tryz.underlying5 Tryz.underlying9 (by
    intro j hj
    have hj' : j < 5 := hj
    rcases (by omega : j = 0 ∨ j = 1 ∨ j = 2 ∨ j = 3 ∨ j = 4) with rfl | rfl | rfl | rfl | rfl
    · exact h0
    · exact h1
    · exact h2
    · exact h3
    · exact h4)
  exact this
theorem conv9 {w : World} {vb : Nat} {y0 y1 y2 y3 y4 y5 y6 y7 y8 : UInt8} (h0 : w.cell? ⟨vb, 0, none⟩ = some (u8 y0)) (h1 : w.cell? ⟨vb, 1, none⟩ = some (u8 y1)) (h2 : w.cell? ⟨vb, 2, none⟩ = some (u8 y2)) (h3 : w.cell? ⟨vb, 3, none⟩ = some (u8 y3)) (h4 : w.cell? ⟨vb, 4, none⟩ = some (u8 y4)) (h5 : w.cell? ⟨vb, 5, none⟩ = some (u8 y5)) (h6 : w.cell? ⟨vb, 6, none⟩ = some (u8 y6)) (h7 : w.cell? ⟨vb, 7, none⟩ = some (u8 y7)) (h8 : w.cell? ⟨vb, 8, none⟩ = some (u8 y8)) : (convert 50 9 (.slice (some ⟨vb, 0, none⟩) 9 9)).run Tryz.prog w = .ok (.string ⟨#[y0, y1, y2, y3, y4, y5, y6, y7, y8]⟩) w := by
  have := run_convert_bytes_back (P := Tryz.prog) w 50 9 5 ⟨vb, 0, none⟩ 9 [y0, y1, y2, y3, y4, y5, y6, y7, y8] Tryz.underlying50 Tryz.underlying5 Tryz.underlying9 (by
    intro j hj
    have hj' : j < 9 := hj
    rcases (by omega : j = 0 ∨ j = 1 ∨ j = 2 ∨ j = 3 ∨ j = 4 ∨ j = 5 ∨ j = 6 ∨ j = 7 ∨ j = 8) with rfl | rfl | rfl | rfl | rfl | rfl | rfl | rfl | rfl
    · exact h0
    · exact h1
    · exact h2
    · exact h3
    · exact h4
    · exact h5
    · exact h6
    · exact h7
    · exact h8)
  exact this
theorem conv5_new (W : World) (y : UInt8) : (convert 50 9 (.slice (some ⟨W.heap.size, 0, none⟩) 5 5)).run Tryz.prog (W.alloc (.cells #[.int .u8 (y.toNat : Int), .int .u8 0, .int .u8 0, .int .u8 0, .int .u8 9] 5)) = .ok (.string ⟨#[y, 0, 0, 0, 9]⟩) (W.alloc (.cells #[.int .u8 (y.toNat : Int), .int .u8 0, .int .u8 0, .int .u8 0, .int .u8 9] 5)) := by
  have h := heap_alloc_new W (.cells #[.int .u8 (y.toNat : Int), .int .u8 0, .int .u8 0, .int .u8 0, .int .u8 9] 5)
  exact conv5 (by rw [cell_of h]; rfl) (by rw [cell_of h]; rfl) (by rw [cell_of h]; rfl) (by rw [cell_of h]; rfl) (by rw [cell_of h]; rfl)
theorem conv9_new (W : World) (y : UInt8) : (convert 50 9 (.slice (some ⟨W.heap.size, 0, none⟩) 9 9)).run Tryz.prog (W.alloc (.cells #[.int .u8 (y.toNat : Int), .int .u8 0, .int .u8 0, .int .u8 0, .int .u8 9, .int .u8 0, .int .u8 0, .int .u8 0, .int .u8 0] 5)) = .ok (.string ⟨#[y, 0, 0, 0, 9, 0, 0, 0, 0]⟩) (W.alloc (.cells #[.int .u8 (y.toNat : Int), .int .u8 0, .int .u8 0, .int .u8 0, .int .u8 9, .int .u8 0, .int .u8 0, .int .u8 0, .int .u8 0] 5)) := by
  have h := heap_alloc_new W (.cells #[.int .u8 (y.toNat : Int), .int .u8 0, .int .u8 0, .int .u8 0, .int .u8 9, .int .u8 0, .int .u8 0, .int .u8 0, .int .u8 0] 5)
  exact conv9 (by rw [cell_of h]; rfl) (by rw [cell_of h]; rfl) (by rw [cell_of h]; rfl) (by rw [cell_of h]; rfl) (by rw [cell_of h]; rfl) (by rw [cell_of h]; rfl) (by rw [cell_of h]; rfl) (by rw [cell_of h]; rfl) (by rw [cell_of h]; rfl)
theorem info46 : (Tryz.prog.info? 46).map (fun i => (i.zero, i.size, i.bytes)) = some (some (.pointer none), 1, 8) := by kernel_rfl
theorem st_c4 {W : World} {cb : Nat} {cs : Array Value} {t : TypeId} (h : W.heap[cb]? = some (.cells cs t (0, 0))) {u : Value} (hc : cs[4]? = some u) (v : Value) : (W.setCell ⟨cb, 5, none⟩ v).drew.cell? ⟨cb, 4, none⟩ = some u := by
  show (W.setCell ⟨cb, 5, none⟩ v).cell? ⟨cb, 4, none⟩ = some u
  rw [cell_of (heap_setCell_same _ _ _ _ _ _ h)]
  simp
  exact hc

/-- The net's row of replicas, behind an append to it. -/
theorem st_cells {W w9 : World} {nb BN n : Nat} {c : SCfg} {rcs : List RCfg} {S : Sto} {ti : Int} {ps : List Pe} {im : List Img} {Rs : List Sto} {way : List (Nat × Lt)} {rv wv iv : Value} {vs : List Value} (M : NM nb BN n c rcs W S ti ps im Rs way rv wv iv vs) (hg : W.grownBy w9 rv.ownBlock) : w9.cell? ⟨nb, 1, none⟩ = some rv ∧ w9.frozen? ⟨nb, 1, none⟩ = false := by
  have lnb : nb < W.heap.size := (Array.getElem?_eq_some_iff.1 M.blk).1
  have hne : rv.ownBlock ≠ some nb := fun e => by
    obtain ⟨_, cur, h4⟩ := own_tag M.ro e
    rw [M.blk] at h4
    simp at h4
  exact ⟨(hg.cell_far ⟨nb, 1, none⟩ lnb (Ne.symm hne)).trans M.cells.2.1, (hg.frozen_far ⟨nb, 1, none⟩ lnb (Ne.symm hne)).trans (froz_of M.blk _)⟩
/-- A replica more. -/
theorem st_nine {w W5 w7 w9 : World} {nb n j b kb vb2 mb2 cb : Nat} {id last : Int} {lv2 v9 : Value} {c : SCfg} {rcs : List RCfg} {S : Sto} {ps : List Pe} {Rs : List Sto} {rv : Value} {ra : Option Addr} {rc : Nat} {o o2 : Obj} {cs : Array Value}
    (HL : NM nb nb n c rcs W5 S 0 ps [] Rs [] rv (.slice none 0 0) (.slice none 0 0) [] ∧ (∀ R ∈ Rs, R.ss = [] ∧ RP R n 1) ∧ (∀ r ∈ rcs, w.heap.size ≤ r.B) ∧ W5.heap[cb]? = some (.cells cs 43 (0, 0)) ∧ Below w.heap.size w W5 ∧ rcs.length = j)
    (hn : 1 ≤ n) (hlast : 1 ≤ last ∧ last ≤ 12) (hnw : w.heap.size ≤ nb)
    (kb7 : w7.heap[kb]? = some (.cells #[.pointer (some ⟨b, 0, none⟩), .int .i64 last, .slice ra 2 rc] 98 (0, 0)))
    (rk7 : RK W5.heap.size b kb W5.heap.size w7 (newS id n vb2 mb2 lv2) last ra [(1, 3), (2, 30)] rc) (f7 : Fr [] W5 w7)
    (hg : ((w7.alloc o).alloc o2).grownBy w9 rv.ownBlock) (ho : w9.ownsRow nb 46 1 v9 (j + 1) (rpC rcs ++ [.pointer (some ⟨kb, 0, none⟩)])) :
    ∃ (rcs' : List RCfg) (Rs' : List Sto) (rv' : Value), NM nb nb n c rcs' (w9.setCell ⟨nb, 1, none⟩ v9) S 0 ps [] Rs' [] rv' (.slice none 0 0) (.slice none 0 0) [] ∧ (∀ R ∈ Rs', R.ss = [] ∧ RP R n 1) ∧ (∀ r ∈ rcs', w.heap.size ≤ r.B) ∧ (w9.setCell ⟨nb, 1, none⟩ v9).heap[cb]? = some (.cells cs 43 (0, 0)) ∧ Below w.heap.size w (w9.setCell ⟨nb, 1, none⟩ v9) ∧ rcs'.length = j + 1 := by
  obtain ⟨M, hRs, hrcs, hcb, be, hj⟩ := HL
  subst hj
  have fa : Fr [] w7 ((w7.alloc o).alloc o2) := ((Fr.refl _ _).alloc _).alloc _
  have F8 : Fr [] W5 ((w7.alloc o).alloc o2) := f7.trans fa (by simp)
  have M8 := M.same F8
  have hr : RM ⟨W5.heap.size, b, kb, W5.heap.size, last, ra, [(1, 3), (2, 30)], rc⟩ ((w7.alloc o).alloc o2) (newS id n vb2 mb2 lv2) :=
    ⟨rk7.same fa, by rw [fa.block kb (Array.getElem?_eq_some_iff.1 kb7).1 (by simp)]; exact kb7, okRs_R, hlast⟩
  have M9 := M8.addRep hr (fun k hk hk2 => by
    have a1 := (rk7.rep.lt k hk).1
    have a2 := (M.sk.rep.lt k hk2).2
    omega) (fun i r' R' e1 e2 k hk hk2 => by
    have a1 := (rk7.rep.lt k hk).1
    have a2 := ((M.rm i r' R' e1 e2).rk.rep.lt k hk2).2
    omega) hg ho
  have F9 : Fr (nb :: rv.ownBlock.toList) W5 (w9.setCell ⟨nb, 1, none⟩ v9) := ((F8.mono (by simp)).grown hg (fun k hk => Or.inl (by simp [hk]))).setCell _ (Or.inl (by simp))
  refine ⟨_, _, _, M9, fun R hR => ?_, fun r hr2 => ?_, ?_, ?_, by simp⟩
  · rcases List.mem_append.1 hR with e | e
    · exact hRs R e
    · have e2 := List.mem_singleton.1 e
      subst e2
      exact ⟨rfl, newS_RP id n vb2 mb2 lv2 hn⟩
  · rcases List.mem_append.1 hr2 with e | e
    · exact hrcs r e
    · have e2 := List.mem_singleton.1 e
      subst e2
      exact be.size
  · rw [F9.block cb (Array.getElem?_eq_some_iff.1 hcb).1 (fun hm => by
      rcases List.mem_cons.1 hm with rfl | hm
      · rw [M.blk] at hcb
        simp at hcb
      · simp at hm
        obtain ⟨_, cur, h4⟩ := own_tag M.ro hm
        rw [hcb] at h4
        simp at h4)]
    exact hcb
  · refine be.trans (F9.below be.size (fun k hk => ?_))
    rcases List.mem_cons.1 hk with rfl | hk
    · exact hnw
    · simp at hk
      have := (own_tag M.ro hk).1
      omega

set_option maxRecDepth 100000 in
set_option maxHeartbeats 3200000 in
theorem start_any (w : World) (raw peers every wait last : Int) (h1 : In64 raw) (h2 : In64 peers) (h3 : In64 every) (h4 : In64 wait) (h5 : In64 last) :
    Calls Tryz.prog 6 #[.int .i64 raw, .int .i64 peers, .int .i64 every, .int .i64 wait, .int .i64 last] w fun e w' => ∃ (N : NC) (x : PS), e = .returned (.pointer (some ⟨N.nb, 0, none⟩)) ∧ Net w w' N x ∧ x.q ≤ 10 ∧ x.ti = 0 ∧ x.way = [] ∧ x.im = [] ∧ (∀ p ∈ x.ps, p = Pe.zero) ∧ N.c.mo ≤ 48 := by
  have p1 := pk_lt raw 4 (by omega)
  have p2 := pk_lt peers 3 (by omega)
  have p3 := pk_lt every 6 (by omega)
  have p4 := pk_lt wait 9 (by omega)
  have p5 := pk_lt last 4 (by omega)
  have hw9 : In64 (wait.tdiv 9) := tdiv_ok h4 (n := 9) (by omega)
  have hl4 : In64 (last.tdiv 4) := tdiv_ok h5 (n := 4) (by omega)
  have p6 := pk_lt (wait.tdiv 9) 40 (by omega)
  have p7 := pk_lt (last.tdiv 4) 3 (by omega)
  obtain ⟨a1, e1⟩ : ∃ a : Nat, pk raw 4 = a := ⟨(pk raw 4).toNat, by omega⟩
  obtain ⟨a2, e2⟩ : ∃ a : Nat, pk peers 3 = a := ⟨(pk peers 3).toNat, by omega⟩
  obtain ⟨a3, e3⟩ : ∃ a : Int, pk every 6 = a := ⟨_, rfl⟩
  obtain ⟨a4, e4⟩ : ∃ a : Int, pk wait 9 = a := ⟨_, rfl⟩
  obtain ⟨a5, e5⟩ : ∃ a : Int, pk last 4 = a := ⟨_, rfl⟩
  obtain ⟨a6, e6⟩ : ∃ a : Int, pk (wait.tdiv 9) 40 = a := ⟨_, rfl⟩
  obtain ⟨a7, e7⟩ : ∃ a : Int, pk (last.tdiv 4) 3 = a := ⟨_, rfl⟩
  have HP : Hid (∀ W, Calls Tryz.prog 16 #[.int .i64 raw, .int .i64 4] W fun e w' => e = .returned (.int .i64 a1) ∧ w' = W) := fun W => by rw [← e1]; exact pick_any raw 4 W h1 (by omega) (by omega)
  have HP2 : Hid (∀ W, Calls Tryz.prog 16 #[.int .i64 peers, .int .i64 3] W fun e w' => e = .returned (.int .i64 a2) ∧ w' = W) := fun W => by rw [← e2]; exact pick_any peers 3 W h2 (by omega) (by omega)
  have HP3 : Hid (∀ W, Calls Tryz.prog 16 #[.int .i64 every, .int .i64 6] W fun e w' => e = .returned (.int .i64 a3) ∧ w' = W) := fun W => by rw [← e3]; exact pick_any every 6 W h3 (by omega) (by omega)
  have HP4 : Hid (∀ W, Calls Tryz.prog 16 #[.int .i64 wait, .int .i64 9] W fun e w' => e = .returned (.int .i64 a4) ∧ w' = W) := fun W => by rw [← e4]; exact pick_any wait 9 W h4 (by omega) (by omega)
  have HP5 : Hid (∀ W, Calls Tryz.prog 16 #[.int .i64 last, .int .i64 4] W fun e w' => e = .returned (.int .i64 a5) ∧ w' = W) := fun W => by rw [← e5]; exact pick_any last 4 W h5 (by omega) (by omega)
  have HP6 : Hid (∀ W, Calls Tryz.prog 16 #[.int .i64 (wait.tdiv 9), .int .i64 40] W fun e w' => e = .returned (.int .i64 a6) ∧ w' = W) := fun W => by rw [← e6]; exact pick_any _ 40 W hw9 (by omega) (by omega)
  have HP7 : Hid (∀ W, Calls Tryz.prog 16 #[.int .i64 (last.tdiv 4), .int .i64 3] W fun e w' => e = .returned (.int .i64 a7) ∧ w' = W) := fun W => by rw [← e7]; exact pick_any _ 3 W hl4 (by omega) (by omega)
  rw [e1] at p1
  rw [e2] at p2
  rw [e3] at p3
  rw [e4] at p4
  rw [e5] at p5
  rw [e6] at p6
  rw [e7] at p7
  have q9 : IntKind.i64.wrap (wait.tdiv 9) = wait.tdiv 9 := wrap_fit hw9
  have q4 : IntKind.i64.wrap (last.tdiv 4) = last.tdiv 4 := wrap_fit hl4
  clear e1 e2 e3 e4 e5 e6 e7 h1 h2 h3 h4 h5
  obtain ⟨mo, hmo⟩ : ∃ mo, 1 + a4 + a6 = mo := ⟨_, rfl⟩
  have hmw : IntKind.i64.wrap (1 + a4 + a6) = mo := by rw [← hmo]; exact wrap_fit ⟨by omega, by omega⟩
  have hmo2 : 1 + a4 ≤ mo ∧ mo ≤ 48 := by omega
  clear hmo
  go_enter Tryz.func6, Tryz.ntmps6
  go_wp2_with (first
    | (go_at_call_of 16 (wait.tdiv 9); refine (HP6.out _).mono ?_; rintro e w' ⟨rfl, hw'⟩; have hw'' := hw'.symm; subst hw'')
    | (go_at_call_of 16 (last.tdiv 4); refine (HP7.out _).mono ?_; rintro e w' ⟨rfl, hw'⟩; have hw'' := hw'.symm; subst hw'')
    | (go_at_call_of 16 raw; refine (HP.out _).mono ?_; rintro e w' ⟨rfl, hw'⟩; have hw'' := hw'.symm; subst hw'')
    | (go_at_call_of 16 peers; refine (HP2.out _).mono ?_; rintro e w' ⟨rfl, hw'⟩; have hw'' := hw'.symm; subst hw'')
    | (go_at_call_of 16 every; refine (HP3.out _).mono ?_; rintro e w' ⟨rfl, hw'⟩; have hw'' := hw'.symm; subst hw'')
    | (go_at_call_of 16 wait; refine (HP4.out _).mono ?_; rintro e w' ⟨rfl, hw'⟩; have hw'' := hw'.symm; subst hw'')
    | (go_at_call_of 16 last; refine (HP5.out _).mono ?_; rintro e w' ⟨rfl, hw'⟩; have hw'' := hw'.symm; subst hw''))
  obtain ⟨W1, hW1⟩ : ∃ W1, w.alloc (.cells #[.int .i64 1, .int .i64 (1 + (a1 : Int)), .int .i64 (1 + (a2 : Int)), .int .i64 (1 + a3), .int .i64 (1 + a4), .int .i64 0, .string ⟨#[50, 120, 52, 32, 51, 120, 49, 53]⟩, .int .i64 (1 + a5)] 43) = W1 := ⟨_, rfl⟩
  obtain ⟨cb, hcb⟩ : ∃ cb, w.heap.size = cb := ⟨_, rfl⟩
  have c1 : W1.heap[cb]? = some (.cells #[.int .i64 1, .int .i64 (1 + (a1 : Int)), .int .i64 (1 + (a2 : Int)), .int .i64 (1 + a3), .int .i64 (1 + a4), .int .i64 0, .string ⟨#[50, 120, 52, 32, 51, 120, 49, 53]⟩, .int .i64 (1 + a5)] 43 (0, 0)) := by rw [← hW1, ← hcb]; exact heap_alloc_new w _
  have F1 : Hid (Fr [] w W1 ∧ w.heap.size = cb ∧ W1.heap[cb]? = some (.cells #[.int .i64 1, .int .i64 (1 + (a1 : Int)), .int .i64 (1 + (a2 : Int)), .int .i64 (1 + a3), .int .i64 (1 + a4), .int .i64 0, .string ⟨#[50, 120, 52, 32, 51, 120, 49, 53]⟩, .int .i64 (1 + a5)] 43 (0, 0))) := ⟨by rw [← hW1]; exact (Fr.refl _ _).alloc _, hcb, c1⟩
  rw [hW1, hcb]
  clear hW1 hcb
  have g4 : W1.cell? ⟨cb, 4, none⟩ = some (.int .i64 (1 + a4)) := by rw [cell_of c1]; rfl
  have g5 : W1.cell? ⟨cb, 5, none⟩ = some (.int .i64 0) := by rw [cell_of c1]; rfl
  have z5 : W1.frozen? ⟨cb, 5, none⟩ = false := froz_of c1 _
  have HC4 : ∀ v, (W1.setCell ⟨cb, 5, none⟩ v).drew.cell? ⟨cb, 4, none⟩ = some (.int .i64 (1 + a4)) := fun v => st_c4 c1 rfl v
  have HC5 : ∀ v, (W1.setCell ⟨cb, 5, none⟩ v).cell? ⟨cb, 4, none⟩ = some (.int .i64 (1 + a4)) := fun v => st_c4 c1 rfl v
  clear c1
  go_region_held3 (fun w' => w'.cell? ⟨cb, 4, none⟩ = some (.int .i64 (1 + a4)))
    (first
      | go_keep
      | exact HC4 _
      | exact HC5 _
      | simp [HC4, HC5])
    (first
      | (go_at_call 16; refine (HP6.out _).mono ?_; rintro e w' ⟨rfl, hw'⟩; have hw'' := hw'.symm; subst hw''))
  obtain ⟨W2, hW2⟩ : ∃ W2, (W1.setCell ⟨cb, 5, none⟩ (.int .i64 mo)).drew = W2 := ⟨_, rfl⟩
  have c2 : W2.heap[cb]? = some (.cells #[.int .i64 1, .int .i64 (1 + (a1 : Int)), .int .i64 (1 + (a2 : Int)), .int .i64 (1 + a3), .int .i64 (1 + a4), .int .i64 mo, .string ⟨#[50, 120, 52, 32, 51, 120, 49, 53]⟩, .int .i64 (1 + a5)] 43 (0, 0)) := by
    rw [← hW2]
    show (W1.setCell ⟨cb, 5, none⟩ (.int .i64 mo)).heap[cb]? = _
    rw [heap_setCell_same _ _ _ _ _ _ F1.out.2.2]
    rfl
  have hcw : w.heap.size ≤ cb := by rw [F1.out.2.1]; exact Nat.le_refl _
  have F2 : Hid (Fr [] w W2 ∧ w.heap.size = cb ∧ W2.heap[cb]? = some (.cells #[.int .i64 1, .int .i64 (1 + (a1 : Int)), .int .i64 (1 + (a2 : Int)), .int .i64 (1 + a3), .int .i64 (1 + a4), .int .i64 mo, .string ⟨#[50, 120, 52, 32, 51, 120, 49, 53]⟩, .int .i64 (1 + a5)] 43 (0, 0))) := ⟨by rw [← hW2]; exact (F1.out.1.setCell _ (Or.inr hcw)).drew, F1.out.2.1, c2⟩
  rw [hW2]
  have HSo : Hid (∀ W, Fr [] W2 W → Calls Tryz.prog 18 #[.agg #[.int .i64 1, .int .i64 (1 + (a1 : Int)), .int .i64 (1 + (a2 : Int)), .int .i64 (1 + a3), .int .i64 (1 + a4), .int .i64 mo, .string ⟨#[50, 120, 52, 32, 51, 120, 49, 53]⟩, .int .i64 (1 + a5)]] W fun e w' => ∃ (c : SCfg) (vb mb : Nat) (lv : Value), e = .returned (.tuple #[.pointer (some ⟨c.xb, 0, none⟩), .int .i64 0]) ∧ SKc c w' (newS 1 (1 + a1) vb mb lv) 0 (List.replicate (1 + a2) Pe.zero) ∧ c.last = 1 + a5 ∧ c.rs = [(2, 4), (3, 15)] ∧ c.ev = 1 + a3 ∧ c.wt = 1 + a4 ∧ c.mo = mo ∧ W.heap.size ≤ c.xb ∧ W.heap.size ≤ c.pb ∧ W.heap.size ≤ c.B ∧ W.heap.size ≤ c.RB ∧ Fr [] W w') := fun W hW => by
    have h8 := newSource_ok (1 + a1) (1 + a2) (1 + a3) (1 + a4) mo (1 + a5) gridS [(2, 4), (3, 15)] W (by omega) (by omega) (by omega) (by omega) (by omega) parses_S
    rw [Int.natCast_add, Int.natCast_add] at h8
    exact h8
  have g0 : W2.cell? ⟨cb, 0, none⟩ = some (.int .i64 1) := by rw [cell_of c2]; rfl
  have g1 : W2.cell? ⟨cb, 1, none⟩ = some (.int .i64 (1 + (a1 : Int))) := by rw [cell_of c2]; rfl
  have g2 : W2.cell? ⟨cb, 2, none⟩ = some (.int .i64 (1 + (a2 : Int))) := by rw [cell_of c2]; rfl
  have g3 : W2.cell? ⟨cb, 3, none⟩ = some (.int .i64 (1 + a3)) := by rw [cell_of c2]; rfl
  have g6 : W2.cell? ⟨cb, 4, none⟩ = some (.int .i64 (1 + a4)) := by rw [cell_of c2]; rfl
  have g7 : W2.cell? ⟨cb, 5, none⟩ = some (.int .i64 mo) := by rw [cell_of c2]; rfl
  have g8 : W2.cell? ⟨cb, 6, none⟩ = some (.string ⟨#[50, 120, 52, 32, 51, 120, 49, 53]⟩) := by rw [cell_of c2]; rfl
  have g9 : W2.cell? ⟨cb, 7, none⟩ = some (.int .i64 (1 + a5)) := by rw [cell_of c2]; rfl
  clear hW2 c2 F1 g4 g5 z5 HC4 HC5 HP HP2 HP3 HP4 HP5 HP6 hmw
  go_wp2_with (first
    | (go_at_call 18; refine (HSo.out _ (Fr.refl _ _)).mono ?_; rintro e w3 ⟨c, vb, mb, lv, rfl, sk, k1, k2, k3, k4, k5, l1, l2, l3, l4, f3⟩; have H3 : Hid (SKc c w3 (newS 1 (1 + a1) vb mb lv) 0 (List.replicate (1 + a2) Pe.zero) ∧ (c.last = 1 + a5 ∧ c.rs = [(2, 4), (3, 15)] ∧ c.ev = 1 + a3 ∧ c.wt = 1 + a4 ∧ c.mo = mo) ∧ (W2.heap.size ≤ c.xb ∧ W2.heap.size ≤ c.pb ∧ W2.heap.size ≤ c.B ∧ W2.heap.size ≤ c.RB) ∧ Fr [] W2 w3) := ⟨sk, ⟨k1, k2, k3, k4, k5⟩, ⟨l1, l2, l3, l4⟩, f3⟩; have g31 : w3.cell? ⟨cb, 1, none⟩ = some (.int .i64 (1 + (a1 : Int))) := f3.gb.cell g1 (by simp); have g32 : w3.cell? ⟨cb, 2, none⟩ = some (.int .i64 (1 + (a2 : Int))) := f3.gb.cell g2 (by simp); clear sk k1 k2 k3 k4 k5 l1 l2 l3 l4 f3)
    | (go_at_call 13; refine (store_s H3.out.1.sc).mono ?_; rintro e w' ⟨rfl, hw'⟩; have hw'' := hw'.symm; subst hw''))
  obtain ⟨nb, hnb⟩ : ∃ nb, w3.heap.size = nb := ⟨_, rfl⟩
  obtain ⟨W4, hW4⟩ : ∃ W4, w3.alloc (.cells #[.pointer (some ⟨c.xb, 0, none⟩), .slice none 0 0, .int .i64 (1 + (a1 : Int)), .slice none 0 0, .slice none 0 0] 32) = W4 := ⟨_, rfl⟩
  have H4 : Hid (∃ (rcs : List RCfg) (Rs : List Sto) (rv : Value) (j : Nat), j = 0 ∧ NM nb nb (1 + a1) c rcs W4 (newS 1 (1 + a1) vb mb lv) 0 (List.replicate (1 + a2) Pe.zero) [] Rs [] rv (.slice none 0 0) (.slice none 0 0) [] ∧ (∀ R ∈ Rs, R.ss = [] ∧ RP R (1 + a1) 1) ∧ (∀ r ∈ rcs, w.heap.size ≤ r.B) ∧ W4.heap[cb]? = some (.cells #[.int .i64 1, .int .i64 (1 + (a1 : Int)), .int .i64 (1 + (a2 : Int)), .int .i64 (1 + a3), .int .i64 (1 + a4), .int .i64 mo, .string ⟨#[50, 120, 52, 32, 51, 120, 49, 53]⟩, .int .i64 (1 + a5)] 43 (0, 0)) ∧ Below w.heap.size w W4 ∧ rcs.length = j) := by
    have fa : Fr [] w3 W4 := by rw [← hW4]; exact (Fr.refl _ _).alloc _
    have b4 : W4.heap[nb]? = some (.cells #[.pointer (some ⟨c.xb, 0, none⟩), .slice none 0 0, .int .i64 (1 + (a1 : Int)), .slice none 0 0, .slice none 0 0] 32 (0, 0)) := by rw [← hW4, ← hnb]; exact heap_alloc_new w3 _
    refine ⟨[], [], .slice none 0 0, 0, rfl, ⟨SK.same H3.out.1 fa, rfl, fun i r R h => by simp at h, fun i r R h => by simp at h, fun i j r R r' R' _ h => by simp at h, ?_, World.ownsRow_nil _ _ _ _, World.ownsRow_nil _ _ _ _, World.ownsRow_nil _ _ _ _, fun j h => by simp at h, rfl, Nat.le_refl _⟩, by simp, by simp, ?_, ?_, rfl⟩
    · rw [b4, Int.natCast_add]
      rfl
    · have e := F2.out.2.2
      have f := H3.out.2.2.2.trans fa (by simp)
      rw [f.block cb (Array.getElem?_eq_some_iff.1 e).1 (by simp)]
      exact e
    · exact (F2.out.1.trans (H3.out.2.2.2.trans fa (by simp)) (by simp)).below (Nat.le_refl _) (by simp)
  have HNB : Hid (w.heap.size ≤ nb) := by
    show w.heap.size ≤ nb
    have h9 := F2.out.1.size
    have h10 := H3.out.2.2.2.size
    omega
  rw [hnb, hW4]
  clear hW4 g31 g32
  go_loopw [15] (fun i wr => ∃ (j : Nat), j ≤ a2 + 1 ∧ i = .int .i64 j ∧ Hid (∃ (rcs : List RCfg) (Rs : List Sto) (rv : Value), NM nb nb (1 + a1) c rcs wr (newS 1 (1 + a1) vb mb lv) 0 (List.replicate (1 + a2) Pe.zero) [] Rs [] rv (.slice none 0 0) (.slice none 0 0) [] ∧ (∀ R ∈ Rs, R.ss = [] ∧ RP R (1 + a1) 1) ∧ (∀ r ∈ rcs, w.heap.size ≤ r.B) ∧ wr.heap[cb]? = some (.cells #[.int .i64 1, .int .i64 (1 + (a1 : Int)), .int .i64 (1 + (a2 : Int)), .int .i64 (1 + a3), .int .i64 (1 + a4), .int .i64 mo, .string ⟨#[50, 120, 52, 32, 51, 120, 49, 53]⟩, .int .i64 (1 + a5)] 43 (0, 0)) ∧ Below w.heap.size w wr ∧ rcs.length = j)) (fun i _ => a2 + 1 - (intOf i).toNat)
  case atStart =>
    obtain ⟨rcs, Rs, rv, j, rfl, h8⟩ := H4.out
    exact ⟨0, by omega, rfl, rcs, Rs, rv, h8⟩
  case round =>
    obtain ⟨j, hj, rfl, HJ⟩ := hrel
    obtain ⟨W5, hW5⟩ : ∃ W5, W5 = wr := ⟨_, rfl⟩
    subst hW5
    clear H4
    obtain ⟨rcs, Rs, rv, hJ⟩ := HJ.out
    have HL : Hid (NM nb nb (1 + a1) c rcs W5 (newS 1 (1 + a1) vb mb lv) 0 (List.replicate (1 + a2) Pe.zero) [] Rs [] rv (.slice none 0 0) (.slice none 0 0) [] ∧ (∀ R ∈ Rs, R.ss = [] ∧ RP R (1 + a1) 1) ∧ (∀ r ∈ rcs, w.heap.size ≤ r.B) ∧ W5.heap[cb]? = some (.cells #[.int .i64 1, .int .i64 (1 + (a1 : Int)), .int .i64 (1 + (a2 : Int)), .int .i64 (1 + a3), .int .i64 (1 + a4), .int .i64 mo, .string ⟨#[50, 120, 52, 32, 51, 120, 49, 53]⟩, .int .i64 (1 + a5)] 43 (0, 0)) ∧ Below w.heap.size w W5 ∧ rcs.length = j) := hJ
    have g51 : W5.cell? ⟨cb, 1, none⟩ = some (.int .i64 (1 + (a1 : Int))) := by rw [cell_of hJ.2.2.2.1]; rfl
    have g52 : W5.cell? ⟨cb, 2, none⟩ = some (.int .i64 (1 + (a2 : Int))) := by rw [cell_of hJ.2.2.2.1]; rfl
    obtain ⟨rva, rvc, hrv⟩ := own_shape hJ.1.ro
    have HRv : Hid (rv = .slice rva j rvc) := by show rv = .slice rva j rvc; rw [hrv, hJ.2.2.2.2.2]
    clear hJ HJ hrv
    by_cases hlt : j < a2 + 1
    · have hltz : (j : Int) < 1 + (a2 : Int) := by omega
      have hw2 : IntKind.i64.wrap (2 + (j : Int)) = 2 + (j : Int) := wrap_fit ⟨by omega, by omega⟩
      have hw7 : IntKind.i64.wrap (1 + a7) = 1 + a7 := wrap_fit ⟨by omega, by omega⟩
      have HNr : Hid (Calls Tryz.prog 19 #[.int .i64 (2 + (j : Int)), .int .i64 (1 + (a1 : Int)), .string ⟨#[49, 120, 51, 32, 50, 120, 51, 48]⟩, .int .i64 (1 + a7)] W5.drew fun e w' => ∃ b kb vb2 mb2 lv2 ra rc, e = .returned (.tuple #[.pointer (some ⟨kb, 0, none⟩), .int .i64 0]) ∧ RK W5.heap.size b kb W5.heap.size w' (newS (2 + (j : Int)) (1 + a1) vb2 mb2 lv2) (1 + a7) ra [(1, 3), (2, 30)] rc ∧ w'.heap[kb]? = some (.cells #[.pointer (some ⟨b, 0, none⟩), .int .i64 (1 + a7), .slice ra 2 rc] 98 (0, 0)) ∧ W5.heap.size ≤ kb ∧ Fr [] W5 w') := by
        have h8 := newReplica_at (2 + (j : Int)) (1 + a1) gridR [(1, 3), (2, 30)] (1 + a7) W5.drew (by omega) (by omega) (by omega) parses_R
        rw [Int.natCast_add] at h8
        refine h8.mono ?_
        rintro e w' ⟨b, kb, vb2, mb2, lv2, ra, rc, rfl, rk, bk, l, f⟩
        exact ⟨b, kb, vb2, mb2, lv2, ra, rc, rfl, rk, bk, l, ((Fr.refl [] W5).drew).trans f (by simp)⟩
      go_wp2
      go_region_held3 (fun w' => w'.cell? ⟨cb, 1, none⟩ = some (.int .i64 (1 + (a1 : Int))))
        (first
          | exact g61
          | go_keep)
        (first
          | (go_at_call 16; refine (HP7.out _).mono ?_; rintro e w' ⟨rfl, hw'⟩; have hw'' := hw'.symm; subst hw'')
          | (go_at_call 19; refine HNr.out.mono ?_; rintro e w6 ⟨b, kb, vb2, mb2, lv2, ra, rc, rfl, rk6, b6, l6, f6⟩; have g61 : w6.cell? ⟨cb, 1, none⟩ = some (.int .i64 (1 + (a1 : Int))) := f6.gb.cell g51 (by simp); have H6 : Hid (RK W5.heap.size b kb W5.heap.size w6 (newS (2 + (j : Int)) (1 + a1) vb2 mb2 lv2) (1 + a7) ra [(1, 3), (2, 30)] rc ∧ w6.heap[kb]? = some (.cells #[.pointer (some ⟨b, 0, none⟩), .int .i64 (1 + a7), .slice ra 2 rc] 98 (0, 0)) ∧ W5.heap.size ≤ kb ∧ Fr [] W5 w6) := ⟨rk6, b6, l6, f6⟩; clear rk6 b6 l6 f6))
      have HTa : Hid (∀ W, Fr [] w6 W → Calls Tryz.prog 20 #[.pointer (some ⟨kb, 0, none⟩)] W fun e w' => e = .returned (.pointer (some ⟨b, 0, none⟩)) ∧ w' = W) := fun W hW => store_r (H6.out.1.same hW).kp
      obtain ⟨yj, hyj⟩ : ∃ yj : UInt8, (j : Int) = (yj.toNat : Int) := byte_of ⟨by omega, by omega⟩
      have hcv5 := conv5_new w6 yj
      rw [← hyj] at hcv5
      have hatx := ask_txt j yj hyj (by omega)
      have HTk : Hid (∀ W, Fr [] w6 W → Calls Tryz.prog 21 #[.pointer (some ⟨kb, 0, none⟩), .string (⟨#[65]⟩ ++ ⟨#[yj, 0, 0, 0, 9]⟩)] W fun e w' => e = .returned (.string (⟨#[72]⟩ ++ ⟨#[yj, 0, 0, 0, 9, 0, 0, 0, 0]⟩)) ∧ RK W5.heap.size b kb W5.heap.size w' (newS (2 + (j : Int)) (1 + a1) vb2 mb2 lv2) (1 + a7) ra [(1, 3), (2, 30)] rc ∧ Fr (foot b (newS (2 + (j : Int)) (1 + a1) vb2 mb2 lv2)) w6 w') := fun W hW => by
        have h8 := rtake_ask _ _ _ _ _ _ _ _ _ j 9 W (H6.out.1.same hW) (by show ([] : List Sn).length ≤ 12; simp) (by omega) (by omega)
        have e0 : lastG (newS (2 + (j : Int)) (1 + a1) vb2 mb2 lv2).ss = 0 := rfl
        rw [e0, hatx.1, hatx.2] at h8
        refine h8.mono ?_
        rintro e w' ⟨rfl, r, f⟩
        exact ⟨rfl, r, (hW.mono (by simp)).trans f (fun k hk => Or.inl hk)⟩
      have HYJ : Hid ((j : Int) = (yj.toNat : Int)) := hyj
      clear hyj hatx
      obtain ⟨i0, hi, hz0, hz1, hz2⟩ := info_parts info46
      go_wp2_with (first
        | (at_builtin; (refine wpList_append_own _ rfl _ _ 28 rfl nb 46 i0 _ 1 8 Tryz.underlying28 hi hz0 hz1 hz2 rfl (by omega) (.slice rva j rvc) j (rpC rcs) rfl (HRo.out.alloc _) ⟨w7.heap.size + 1, 0, none⟩ 1 1 [.pointer (some ⟨kb, 0, none⟩)] rfl rfl (World.news_of_block (cs := #[.pointer (some ⟨kb, 0, none⟩)]) (t := 46) (fr := (0, 0)) (by have h8 := heap_alloc_new (w7.alloc (.cells #[.int .u8 (j : Int), .int .u8 0, .int .u8 0, .int .u8 0, .int .u8 9, .int .u8 0, .int .u8 0, .int .u8 0, .int .u8 0] 5)) (.cells #[.pointer (some ⟨kb, 0, none⟩)] 46); rw [show (w7.alloc (.cells #[.int .u8 (j : Int), .int .u8 0, .int .u8 0, .int .u8 0, .int .u8 9, .int .u8 0, .int .u8 0, .int .u8 0, .int .u8 0] 5)).heap.size = w7.heap.size + 1 from by simp] at h8; exact h8)) (by simp [Value.oneCell']) (by unfold maxLen; omega) (by omega) (by simp; omega) ?_); intro v9 w9 hown9 hgrow9 hne9; obtain ⟨va9, vc9, hv9⟩ := own_shape hown9; subst hv9; obtain ⟨c91, z91⟩ : w9.cell? ⟨nb, 1, none⟩ = some (.slice rva j rvc) ∧ w9.frozen? ⟨nb, 1, none⟩ = false := (by have h8 := st_cells (w9 := w9) (H8.out.same ((Fr.refl _ _).alloc (.cells #[.pointer (some ⟨kb, 0, none⟩)] 46))) (by rw [HRv.out]; exact hgrow9); rw [HRv.out] at h8; exact h8); have HA : Hid (w9.ownsRow nb 46 1 (.slice va9 (j + 1) vc9) (j + 1) (rpC rcs ++ [.pointer (some ⟨kb, 0, none⟩)]) ∧ ((w7.alloc (.cells #[.int .u8 (j : Int), .int .u8 0, .int .u8 0, .int .u8 0, .int .u8 9, .int .u8 0, .int .u8 0, .int .u8 0, .int .u8 0] 5)).alloc (.cells #[.pointer (some ⟨kb, 0, none⟩)] 46)).grownBy w9 (Value.slice rva j rvc).ownBlock) := ⟨hown9, hgrow9⟩; clear hown9 hgrow9 hne9)
        | (go_at_call 20; refine (HTa.out _ (Fr.refl _ _)).mono ?_; rintro e w' ⟨rfl, hw'⟩; have hw'' := hw'.symm; subst hw'')
        | (go_at_call 21; refine (HTk.out _ ((Fr.refl _ _).alloc _)).mono ?_; rintro e w7 ⟨rfl, rk7, f7⟩; have H7 : Hid (RK W5.heap.size b kb W5.heap.size w7 (newS (2 + (j : Int)) (1 + a1) vb2 mb2 lv2) (1 + a7) ra [(1, 3), (2, 30)] rc ∧ Fr (foot b (newS (2 + (j : Int)) (1 + a1) vb2 mb2 lv2)) w6 w7) := ⟨rk7, f7⟩; clear rk7 f7; have hcv9 := conv9_new w7 yj; rw [← HYJ.out] at hcv9; have F7 : Hid (Fr [] W5 w7) := H6.out.2.2.2.trans H7.out.2 (fun k hk => Or.inr (H6.out.1.rep.lt k hk).1); have M7 := HL.out.1.same (F7.out.alloc (.cells #[.int .u8 (j : Int), .int .u8 0, .int .u8 0, .int .u8 0, .int .u8 9, .int .u8 0, .int .u8 0, .int .u8 0, .int .u8 0] 5)); have n71 := M7.cells.2.1; rw [HRv.out] at n71; have z71 := froz_of M7.blk 1; have HRo : Hid ((w7.alloc (.cells #[.int .u8 (j : Int), .int .u8 0, .int .u8 0, .int .u8 0, .int .u8 9, .int .u8 0, .int .u8 0, .int .u8 0, .int .u8 0] 5)).ownsRow nb 46 1 (.slice rva j rvc) j (rpC rcs)) := (by have h8 := M7.ro; rw [HRv.out, HL.out.2.2.2.2.2] at h8; exact h8); have lnb7 : nb ≤ w7.heap.size := (by have h8 := F7.out.size; have h9 := (Array.getElem?_eq_some_iff.1 HL.out.1.blk).1; omega); have H8 : Hid (NM nb nb (1 + a1) c rcs (w7.alloc (.cells #[.int .u8 (j : Int), .int .u8 0, .int .u8 0, .int .u8 0, .int .u8 9, .int .u8 0, .int .u8 0, .int .u8 0, .int .u8 0] 5)) (newS 1 (1 + a1) vb mb lv) 0 (List.replicate (1 + a2) Pe.zero) [] Rs [] rv (.slice none 0 0) (.slice none 0 0) []) := M7; clear M7))
      have H9 := st_nine (w9 := w9) HL.out (by omega) (last := 1 + a7) (by omega) HNB.out (by have e8 := H6.out.2.1; rw [H7.out.2.block kb (Array.getElem?_eq_some_iff.1 e8).1 H6.out.1.kn]; exact e8) H7.out.1 F7.out (by rw [HRv.out]; exact HA.out.2) HA.out.1
      go_roundw
      case rel => exact ⟨j + 1, by omega, by go_num, H9⟩
      case measure => simp [intOf]; omega
    · have hjj : j = a2 + 1 := by omega
      subst hjj
      have hge : ¬ ((a2 : Int) + 1 < 1 + (a2 : Int)) := by omega
      go_wp2
      go_ret
      refine ⟨⟨nb, nb, 1 + a1, c, rcs⟩, rfl, ⟨newS 1 (1 + a1) vb mb lv, 0, List.replicate (1 + a2) Pe.zero, [], Rs, [], 1⟩, ⟨⟨rv, _, _, [], HL.out.1⟩, ?_, ?_, HL.out.2.2.2.2.1, ?_⟩, by simp, rfl, rfl, rfl, fun p hp => (List.mem_replicate.1 hp).2, by show c.mo ≤ 48; rw [H3.out.2.1.2.2.2.2]; omega⟩
      · exact NInv.start (1 + a1) (1 + a2) vb mb lv _ Rs (by omega) (by omega) (by rw [← HL.out.1.rl, HL.out.2.2.2.2.2]; omega) HL.out.2.1
      · have h8 := H3.out.2.1
        refine ⟨by rw [h8.2.2.2.1, h8.2.2.2.2]; omega, ⟨Int.le_refl _, by show (0 : Int) ≤ 1000000; omega⟩, Int.le_refl _, by rw [h8.1]; omega, by rw [h8.2.2.1]; omega, by rw [h8.2.1]; exact okRs_S⟩
      · have h8 := H3.out.2.2.1
        have h9 := F2.out.1.size
        have h10 := H3.out.2.2.2.size
        refine ⟨⟨?_, ?_, ?_⟩, HL.out.2.2.1, ?_⟩
        · show w.heap.size ≤ c.B; omega
        · show w.heap.size ≤ c.xb; omega
        · show w.heap.size ≤ c.pb; omega
        · show w.heap.size ≤ nb; omega
end Go.Proofs.YthdhegmlknpllabGreatDoor
