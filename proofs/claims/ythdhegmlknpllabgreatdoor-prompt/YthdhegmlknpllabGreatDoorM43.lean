import Derived.Test.YthdhegmlknpllabGreatDoorM37
import Derived.Test.YthdhegmlknpllabGreatDoorM19
import Derived.Test.YthdhegmlknpllabGreatDoorM20
import Derived.Test.YthdhegmlknpllabGreatDoorM39
import Derived.Test.YthdhegmlknpllabGreatDoorM41
import Derived.Test.YthdhegmlknpllabGreatDoorM42
import Derived.Test.YthdhegmlknpllabGreatDoorM35
/-
  Release (94) of what there is not; the walks of node's Source.forgetSent (63) and holdSent (89).
-/
namespace Go.Proofs.YthdhegmlknpllabGreatDoor
open Go.RowKit Go.Maps Go.MuLone

set_option maxRecDepth 100000 in
set_option maxHeartbeats 800000 in
theorem release_none (B b : Nat) (s : Sto) (g : Int) (w : World) (h : Rep B w b 0 s) (hl : s.ss.length ≤ 12) (hf : fi (fun y : Sn => y.guid == g) 0 s.ss = -1) :
    Calls Tryz.prog 94 #[.pointer (some ⟨b, 0, none⟩), .int .i64 g] w fun e w' => e = .returned (.int .i64 3) ∧ Rep B w' b 0 s ∧ Fr (foot b s) w w' := by
  have R1 := h.lock 1
  obtain ⟨w1, hw1⟩ : ∃ w1, w.setCell ⟨b, 0, none⟩ (.int .i32 1) = w1 := ⟨_, rfl⟩
  rw [hw1] at R1
  have HL := lock_free Tryz.muLib ⟨b, 0, none⟩ w h.cells.1 (h.frozen 0)
  have F1 : Fr (foot b s) w w1 := by rw [← hw1]; exact fr_lock b s w _
  have HF : Hid (w.setCell ⟨b, 0, none⟩ (.int .i32 1) = w1 ∧ Rep B w1 b 1 s ∧ Fr (foot b s) w w1) := ⟨hw1, R1, F1⟩
  have HS := findSnapshot_any B b 1 s g w1 R1 (by omega)
  rw [hf] at HS
  clear h R1 F1 hw1 hf
  go_enter_defers Tryz.func94, Tryz.ntmps94
  go_wp2_with (first
    | (go_at_call 30; refine HL.mono ?_; rintro e w' ⟨rfl, hw'⟩; rw [HF.out.1] at hw'; have hw' := hw'.symm; subst hw')
    | (go_at_call 72; refine HS.mono ?_; rintro e w2 ⟨rfl, hfr⟩
       have HR2 : Hid (Rep B w2 b 1 s ∧ Fr (foot b s) w w2) := ⟨HF.out.2.1.kept0 hfr, HF.out.2.2.trans hfr (by simp)⟩
       clear hfr))
  refine leaves_cons (f := 31) (args := #[.pointer (some ⟨b, 0, none⟩)]) (by simp) (by simp [go_sem]) ?_
  refine (unlock_deferred Tryz.muLib ⟨b, 0, none⟩ .returning _ HR2.out.1.cells.1 (HR2.out.1.frozen 0)).mono ?_
  rintro e u' w'' ⟨rfl, rfl, rfl⟩
  exact ⟨_, results_tmp rfl _ _ _, rfl, HR2.out.1.lock 0, HR2.out.2.setCell _ (Or.inl (by simp [foot]))⟩

/-- What forgetSent leaves. -/
def FgPost (B b xb pb RB : Nat) (w w' : World) (s : Sto) (last : Int) (ra : Option Addr) (rs : List (Int × Int)) (rc : Nat) (ev wt mo ti : Int) (ps : List Pe) (i : Nat) (p : Pe) (Q : Sto → Prop) : Prop :=
  ∃ s2, Q s2 ∧ SK B b xb pb RB w' s2 last ra rs rc ev wt mo ti (ps.set i { p with x := 0 }) ∧ Fr (pb :: foot b s) w w'

set_option maxRecDepth 100000 in
set_option maxHeartbeats 1600000 in
theorem forget_any (B b xb pb RB : Nat) (s : Sto) (last : Int) (ra : Option Addr) (rs : List (Int × Int)) (rc : Nat) (ev wt mo ti : Int) (ps : List Pe) (i : Nat) (p : Pe) (Q : Sto → Prop) (w : World) (h : SK B b xb pb RB w s last ra rs rc ev wt mo ti ps) (hi : i < ps.length) (hp : ps[i] = p)
    (hr : ∀ W, Fr [] w W → Calls Tryz.prog 94 #[.pointer (some ⟨b, 0, none⟩), .int .i64 p.x] W fun e w' => ∃ (en : Int) (s2 : Sto), e = .returned (.int .i64 en) ∧ Rep B w' b 0 s2 ∧ Fr (foot b s) W w' ∧ Q s2) :
    Calls Tryz.prog 63 #[.pointer (some ⟨xb, 0, none⟩), .pointer (some ⟨pb, i * 7, none⟩)] w fun e w' => e = .returned (.tuple #[]) ∧ FgPost B b xb pb RB w w' s last ra rs rc ev wt mo ti ps i p Q := by
  have HI : Hid (∃ h : i < ps.length, ps[i] = p) := ⟨hi, hp⟩
  have HH : Hid (SK B b xb pb RB w s last ra rs rc ev wt mo ti ps) := h
  have c0 := h.sc.c0
  have P := h.pc i hi
  rw [hp] at P
  have p1 := P.c1
  have HR : Hid (∀ W, Fr [] w W → Calls Tryz.prog 94 #[.pointer (some ⟨b, 0, none⟩), .int .i64 p.x] W fun e w' => ∃ (en : Int) (s2 : Sto), e = .returned (.int .i64 en) ∧ Rep B w' b 0 s2 ∧ Fr (foot b s) W w' ∧ Q s2) := hr
  clear h hr P hi hp
  go_enter Tryz.func63, Tryz.ntmps63
  go_wp2
  go_region_held3 (fun w' => w'.cell? ⟨xb, 0, none⟩ = some (.pointer (some ⟨b, 0, none⟩)) ∧ w'.cell? ⟨pb, i * 7 + 1, none⟩ = some (.int .i64 p.x))
    (first
      | exact ⟨cc0, pp1⟩
      | go_keep)
    (first
      | (go_at_call 94; refine (HR.out _ (by first | exact (Fr.refl [] w).drew | exact Fr.refl [] w)).mono ?_; rintro e w2 ⟨en, s2, rfl, r2, f2, q2⟩; have k2 : SK B b xb pb RB w2 s2 last ra rs rc ev wt mo ti ps := (by first | exact HH.out.step r2 f2 | exact (HH.out.same (Fr.refl _ _).drew).step r2 f2); have f3 : Fr (foot b s) w w2 := (by first | exact f2 | exact ((Fr.refl (foot b s) w).drew).trans f2 (fun k hk => Or.inl hk)); have z1 : w2.frozen? ⟨pb, i * 7 + 1, none⟩ = false := froz_of k2.pr _; have H2 : Hid (SK B b xb pb RB w2 s2 last ra rs rc ev wt mo ti ps ∧ Fr (foot b s) w w2 ∧ Q s2) := ⟨k2, f3, q2⟩; have P2 := k2.pc i HI.out.1; rw [HI.out.2] at P2; have pp1 := P2.c1; have cc0 := k2.sc.c0; clear r2 f2 f3 q2 k2 P2))
  all_goals
    go_wp2
    go_end0
    refine ⟨rfl, s2, H2.out.2.2, ?_, ?_⟩
    · exact H2.out.1.setP i 1 _ _ HI.out.1 (by omega) (by rw [HI.out.2]; rfl)
    · exact ((Fr.refl _ _).trans H2.out.2.1 (fun k hk => Or.inl (List.mem_cons_of_mem _ hk))).setCell _ (Or.inl (by simp))
end Go.Proofs.YthdhegmlknpllabGreatDoor

/-
  The walk of node's Source.holdSent (89).
-/
namespace Go.Proofs.YthdhegmlknpllabGreatDoor
open Go.RowKit Go.Maps Go.MuLone

/-- What holdSent leaves. -/
def HdPost (B b xb pb RB : Nat) (w w' : World) (s : Sto) (last : Int) (ra : Option Addr) (rs : List (Int × Int)) (rc : Nat) (ev wt mo ti : Int) (ps : List Pe) (i : Nat) (p : Pe) (aim : Int) (Q : Sto → Prop) : Prop :=
  ∃ s2, Q s2 ∧ SK B b xb pb RB w' s2 last ra rs rc ev wt mo ti (ps.set i { p with x := aim }) ∧ Fr (pb :: foot b s) w w'

set_option maxRecDepth 100000 in
set_option maxHeartbeats 1600000 in
theorem holdSent_again (B b xb pb RB : Nat) (s : Sto) (last : Int) (ra : Option Addr) (rs : List (Int × Int)) (rc : Nat) (ev wt mo ti : Int) (ps : List Pe) (i : Nat) (p : Pe) (aim : Int) (w : World) (h : SK B b xb pb RB w s last ra rs rc ev wt mo ti ps) (hi : i < ps.length) (hp : ps[i] = p) (hx : p.x ≠ 0) :
    Calls Tryz.prog 89 #[.pointer (some ⟨xb, 0, none⟩), .pointer (some ⟨pb, i * 7, none⟩), .int .i64 aim] w fun e w' => e = .returned (.bool true) ∧ HdPost B b xb pb RB w w' s last ra rs rc ev wt mo ti ps i p aim (fun s2 => s2 = s) := by
  have HI : Hid (∃ h : i < ps.length, ps[i] = p) := ⟨hi, hp⟩
  have HH : Hid (SK B b xb pb RB w s last ra rs rc ev wt mo ti ps) := h
  have P := h.pc i hi
  rw [hp] at P
  have p1 := P.c1
  have z1 : w.frozen? ⟨pb, i * 7 + 1, none⟩ = false := froz_of h.pr _
  have hxe : (p.x == 0) = false := by simpa using hx
  clear h P hi hp
  go_enter Tryz.func89, Tryz.ntmps89
  go_wp2
  go_ret
  exact ⟨rfl, s, rfl, HH.out.setP i 1 _ _ HI.out.1 (by omega) (by rw [HI.out.2]; rfl), (Fr.refl _ _).setCell _ (Or.inl (by simp))⟩
theorem holdSent_first (B b xb pb RB : Nat) (s : Sto) (last : Int) (ra : Option Addr) (rs : List (Int × Int)) (rc : Nat) (ev wt mo ti : Int) (ps : List Pe) (i : Nat) (p : Pe) (aim : Int) (Q : Sto → Prop) (w : World) (h : SK B b xb pb RB w s last ra rs rc ev wt mo ti ps) (hi : i < ps.length) (hp : ps[i] = p) (hx : p.x = 0)
    (hr : ∀ W, Fr [] w W → Calls Tryz.prog 121 #[.pointer (some ⟨b, 0, none⟩), .int .i64 aim] W fun e w' => ∃ (s2 : Sto), e = .returned (.int .i64 0) ∧ Rep B w' b 0 s2 ∧ Fr (foot b s) W w' ∧ Q s2) :
    Calls Tryz.prog 89 #[.pointer (some ⟨xb, 0, none⟩), .pointer (some ⟨pb, i * 7, none⟩), .int .i64 aim] w fun e w' => e = .returned (.bool true) ∧ HdPost B b xb pb RB w w' s last ra rs rc ev wt mo ti ps i p aim Q := by
  have HI : Hid (∃ h : i < ps.length, ps[i] = p) := ⟨hi, hp⟩
  have HH : Hid (SK B b xb pb RB w s last ra rs rc ev wt mo ti ps) := h
  have c0 := h.sc.c0
  have P := h.pc i hi
  rw [hp] at P
  have p1 := P.c1
  rw [hx] at p1
  have HR : Hid (∀ W, Fr [] w W → Calls Tryz.prog 121 #[.pointer (some ⟨b, 0, none⟩), .int .i64 aim] W fun e w' => ∃ (s2 : Sto), e = .returned (.int .i64 0) ∧ Rep B w' b 0 s2 ∧ Fr (foot b s) W w' ∧ Q s2) := hr
  clear h hr P hi hp
  go_enter Tryz.func89, Tryz.ntmps89
  go_wp2_with (first
    | (go_at_call 121; refine (HR.out _ (by first | exact (Fr.refl [] w).drew | exact Fr.refl [] w)).mono ?_; rintro e w2 ⟨s2, rfl, r2, f2, q2⟩; have k2 : SK B b xb pb RB w2 s2 last ra rs rc ev wt mo ti ps := (by first | exact HH.out.step r2 f2 | exact (HH.out.same (Fr.refl _ _).drew).step r2 f2); have f3 : Fr (foot b s) w w2 := (by first | exact f2 | exact ((Fr.refl (foot b s) w).drew).trans f2 (fun k hk => Or.inl hk)); have z1 : w2.frozen? ⟨pb, i * 7 + 1, none⟩ = false := froz_of k2.pr _; have H2 : Hid (SK B b xb pb RB w2 s2 last ra rs rc ev wt mo ti ps ∧ Fr (foot b s) w w2 ∧ Q s2) := ⟨k2, f3, q2⟩; have P2 := k2.pc i HI.out.1; rw [HI.out.2] at P2; have pp1 := P2.c1; have cc0 := k2.sc.c0; clear r2 f2 f3 q2 k2 P2))
  go_ret
  exact ⟨rfl, s2, H2.out.2.2, H2.out.1.setP i 1 _ _ HI.out.1 (by omega) (by rw [HI.out.2]; rfl), ((Fr.refl _ _).trans H2.out.2.1 (fun k hk => Or.inl (List.mem_cons_of_mem _ hk))).setCell _ (Or.inl (by simp))⟩
end Go.Proofs.YthdhegmlknpllabGreatDoor

/-
  The walks of slices.ContainsFunc at snapshots (118) and at peers (124), and of the closures of node's has and knowsOfAny.
-/
namespace Go.Proofs.YthdhegmlknpllabGreatDoor
open Go.RowKit Go.Maps Go.MuLone

set_option maxHeartbeats 400000 in
theorem clo_sn (x : Int × Int × Int) (g : Int) (gb : Nat) (w : World) (hg : w.cell? ⟨gb, 0, none⟩ = some (.int .i64 g)) :
    Calls Tryz.prog 117 #[.agg #[.int .i64 x.1, .int .i64 x.2.1, .int .i64 x.2.2], .pointer (some ⟨gb, 0, none⟩)] w fun e w' => e = .returned (.bool (x.1 == g)) ∧ Fr [] w w' := by
  have lb := World.block_lt_of_cell? _ _ hg
  go_enter Tryz.func117, Tryz.ntmps117
  go_wp2
  go_ret
  exact ⟨rfl, (Fr.refl _ _).alloc _⟩

set_option maxRecDepth 100000 in
set_option maxHeartbeats 1000000 in
theorem index_sn (gg cap : Nat) (l : List (Int × Int × Int)) (g : Int) (gb : Nat) (w : World) (ho : w.heap[gg]? = some (.cells (tlC l).toArray 55 (0, 0))) (_hcap : l.length ≤ cap) (hg : w.cell? ⟨gb, 0, none⟩ = some (.int .i64 g)) (hl : l.length ≤ 1000000) :
    Calls Tryz.prog 139 #[.slice (some ⟨gg, 0, none⟩) l.length cap, .func (.func 117) #[] #[.pointer (some ⟨gb, 0, none⟩)]] w fun e w' => e = .returned (.int .i64 (fi (fun x : Int × Int × Int => x.1 == g) 0 l)) ∧ Fr [] w w' := by
  obtain ⟨r, hr⟩ : ∃ r, fi (fun x : Int × Int × Int => x.1 == g) 0 l = r := ⟨_, rfl⟩
  rw [hr]
  have HR : Hid (fi (fun x : Int × Int × Int => x.1 == g) 0 (l.drop 0) = r) := hr
  have HO : Hid (w.heap[gg]? = some (.cells (tlC l).toArray 55 (0, 0)) ∧ w.cell? ⟨gb, 0, none⟩ = some (.int .i64 g)) := ⟨ho, hg⟩
  clear hr ho hg
  go_enter Tryz.func139, Tryz.ntmps139
  go_wp2
  go_loopw [8] (fun i wr => ∃ k : Nat, k ≤ l.length ∧ i = .int .i64 k ∧ Hid (fi (fun x : Int × Int × Int => x.1 == g) k (l.drop k) = r) ∧ Hid (Fr [] w wr)) (fun i _ => l.length - (intOf i).toNat)
  case atStart => exact ⟨0, Nat.zero_le _, rfl, HR, Fr.refl _ _⟩
  case round =>
    obtain ⟨k, hk, rfl, HK, HW⟩ := hrel
    obtain ⟨W3, hW3⟩ : ∃ W3, W3 = wr := ⟨_, rfl⟩
    subst hW3
    clear HR
    by_cases hlt : k < l.length
    · have H := HK.out
      rw [List.drop_eq_getElem_cons hlt, fi] at H
      have hrow : W3.heap[gg]? = some (.cells (tlC l).toArray 55 (0, 0)) := by rw [HW.out.block gg (Array.getElem?_eq_some_iff.1 HO.out.1).1 (by simp)]; exact HO.out.1
      obtain ⟨g0, g1, g2⟩ := tlC_get l k hlt
      obtain ⟨x, hx⟩ : ∃ x, l[k] = x := ⟨_, rfl⟩
      rw [hx] at g0 g1 g2 H
      have d0 : W3.cell? ⟨gg, k * 3, none⟩ = some (.int .i64 x.1) := by rw [cell_of hrow, List.getElem?_toArray]; exact g0
      have d1 : W3.cell? ⟨gg, k * 3 + 1, none⟩ = some (.int .i64 x.2.1) := by rw [cell_of hrow, List.getElem?_toArray]; exact g1
      have d2 : W3.cell? ⟨gg, k * 3 + 2, none⟩ = some (.int .i64 x.2.2) := by rw [cell_of hrow, List.getElem?_toArray]; exact g2
      have hg' : W3.cell? ⟨gb, 0, none⟩ = some (.int .i64 g) := HW.out.gb.cell HO.out.2 (by simp)
      have HC := clo_sn x g gb W3 hg'
      have hltz : (k : Int) < (l.length : Int) := by omega
      clear HK hrow hx hg' g0 g1 g2
      cases hp : (x.1 == g)
      · rw [hp] at HC
        have HH : Hid (fi (fun x : Int × Int × Int => x.1 == g) (k + 1) (l.drop (k + 1)) = r) := by show _ = _; simpa [hp] using H
        clear H
        go_wp2_with (go_at_call 117; refine HC.mono ?_; rintro e w' ⟨rfl, hfr⟩; have HW' : Hid (Fr [] w w') := HW.out.trans hfr (by simp); clear HW hfr)
        go_roundw
        case rel => exact ⟨k + 1, by omega, by go_num, HH, HW'⟩
        case measure => simp [intOf]; omega
      · rw [hp] at HC
        have HH : Hid ((k : Int) = r) := by show _ = _; simpa [hp] using H
        clear H
        go_wp2_with (go_at_call 117; refine HC.mono ?_; rintro e w' ⟨rfl, hfr⟩; have HW' : Hid (Fr [] w w') := HW.out.trans hfr (by simp); clear HW hfr)
        go_ret
        exact ⟨ret_int HH.out, HW'.out⟩
    · have hkk : k = l.length := by omega
      have HH : Hid ((-1 : Int) = r) := by have := HK.out; rw [hkk] at this; show _ = _; simpa [fi] using this
      clear HK
      subst hkk
      go_wp2
      go_ret
      exact ⟨ret_int HH.out, HW.out⟩

theorem contains_sn (gg cap : Nat) (l : List (Int × Int × Int)) (g : Int) (gb : Nat) (w : World) (ho : w.heap[gg]? = some (.cells (tlC l).toArray 55 (0, 0))) (hcap : l.length ≤ cap) (hg : w.cell? ⟨gb, 0, none⟩ = some (.int .i64 g)) (hl : l.length ≤ 1000000) :
    Calls Tryz.prog 118 #[.slice (some ⟨gg, 0, none⟩) l.length cap, .func (.func 117) #[] #[.pointer (some ⟨gb, 0, none⟩)]] w fun e w' => e = .returned (.bool (l.any fun x => x.1 == g)) ∧ Fr [] w w' := by
  have HI : Hid (Calls Tryz.prog 139 #[.slice (some ⟨gg, 0, none⟩) l.length cap, .func (.func 117) #[] #[.pointer (some ⟨gb, 0, none⟩)]] w fun e w' => e = .returned (.int .i64 (fi (fun x : Int × Int × Int => x.1 == g) 0 l)) ∧ Fr [] w w') := index_sn gg cap l g gb w ho hcap hg hl
  have hd := fi_dec (fun x : Int × Int × Int => x.1 == g) l
  obtain ⟨r, hr⟩ : ∃ r, fi (fun x : Int × Int × Int => x.1 == g) 0 l = r := ⟨_, rfl⟩
  rw [hr] at HI hd
  rw [← hd]
  clear ho hg hr hd
  go_enter Tryz.func118, Tryz.ntmps118
  go_wp2_with (first
    | (go_at_call 139; refine HI.out.mono ?_; rintro e w1 ⟨rfl, f1⟩; have H1 : Hid (Fr [] w w1) := f1; clear f1))
  go_ret
  exact ⟨rfl, H1.out⟩

set_option maxHeartbeats 400000 in
theorem clo_pe (x : Pe) (g : Int) (gb : Nat) (w : World) (hg : w.cell? ⟨gb, 0, none⟩ = some (.int .i64 g)) :
    Calls Tryz.prog 125 #[.agg #[.int .i64 x.k, .int .i64 x.x, .int .i64 x.g, .int .i64 x.num, .int .u8 x.aw, .int .i64 x.un, .int .i64 x.tr], .pointer (some ⟨gb, 0, none⟩)] w fun e w' => e = .returned (.bool (x.k == g)) ∧ Fr [] w w' := by
  have lb := World.block_lt_of_cell? _ _ hg
  go_enter Tryz.func125, Tryz.ntmps125
  go_wp2
  go_ret
  exact ⟨rfl, (Fr.refl _ _).alloc _⟩

set_option maxRecDepth 100000 in
set_option maxHeartbeats 1000000 in
theorem index_pe (gg cap : Nat) (l : List (Pe)) (g : Int) (gb : Nat) (w : World) (ho : w.heap[gg]? = some (.cells (psC l).toArray 112 (0, 0))) (_hcap : l.length ≤ cap) (hg : w.cell? ⟨gb, 0, none⟩ = some (.int .i64 g)) (hl : l.length ≤ 1000000) :
    Calls Tryz.prog 142 #[.slice (some ⟨gg, 0, none⟩) l.length cap, .func (.func 125) #[] #[.pointer (some ⟨gb, 0, none⟩)]] w fun e w' => e = .returned (.int .i64 (fi (fun x : Pe => x.k == g) 0 l)) ∧ Fr [] w w' := by
  obtain ⟨r, hr⟩ : ∃ r, fi (fun x : Pe => x.k == g) 0 l = r := ⟨_, rfl⟩
  rw [hr]
  have HR : Hid (fi (fun x : Pe => x.k == g) 0 (l.drop 0) = r) := hr
  have HO : Hid (w.heap[gg]? = some (.cells (psC l).toArray 112 (0, 0)) ∧ w.cell? ⟨gb, 0, none⟩ = some (.int .i64 g)) := ⟨ho, hg⟩
  clear hr ho hg
  go_enter Tryz.func142, Tryz.ntmps142
  go_wp2
  go_loopw [8] (fun i wr => ∃ k : Nat, k ≤ l.length ∧ i = .int .i64 k ∧ Hid (fi (fun x : Pe => x.k == g) k (l.drop k) = r) ∧ Hid (Fr [] w wr)) (fun i _ => l.length - (intOf i).toNat)
  case atStart => exact ⟨0, Nat.zero_le _, rfl, HR, Fr.refl _ _⟩
  case round =>
    obtain ⟨k, hk, rfl, HK, HW⟩ := hrel
    obtain ⟨W3, hW3⟩ : ∃ W3, W3 = wr := ⟨_, rfl⟩
    subst hW3
    clear HR
    by_cases hlt : k < l.length
    · have H := HK.out
      rw [List.drop_eq_getElem_cons hlt, fi] at H
      have hrow : W3.heap[gg]? = some (.cells (psC l).toArray 112 (0, 0)) := by rw [HW.out.block gg (Array.getElem?_eq_some_iff.1 HO.out.1).1 (by simp)]; exact HO.out.1
      obtain ⟨g0, g1, g2, g3, g4, g5, g6⟩ := psC_get l k hlt
      obtain ⟨x, hx⟩ : ∃ x, l[k] = x := ⟨_, rfl⟩
      rw [hx] at g0 g1 g2 g3 g4 g5 g6 H
      have d0 : W3.cell? ⟨gg, k * 7, none⟩ = some (.int .i64 x.k) := by rw [cell_of hrow, List.getElem?_toArray]; exact g0
      have d1 : W3.cell? ⟨gg, k * 7 + 1, none⟩ = some (.int .i64 x.x) := by rw [cell_of hrow, List.getElem?_toArray]; exact g1
      have d2 : W3.cell? ⟨gg, k * 7 + 2, none⟩ = some (.int .i64 x.g) := by rw [cell_of hrow, List.getElem?_toArray]; exact g2
      have d3 : W3.cell? ⟨gg, k * 7 + 3, none⟩ = some (.int .i64 x.num) := by rw [cell_of hrow, List.getElem?_toArray]; exact g3
      have d4 : W3.cell? ⟨gg, k * 7 + 4, none⟩ = some (.int .u8 x.aw) := by rw [cell_of hrow, List.getElem?_toArray]; exact g4
      have d5 : W3.cell? ⟨gg, k * 7 + 5, none⟩ = some (.int .i64 x.un) := by rw [cell_of hrow, List.getElem?_toArray]; exact g5
      have d6 : W3.cell? ⟨gg, k * 7 + 6, none⟩ = some (.int .i64 x.tr) := by rw [cell_of hrow, List.getElem?_toArray]; exact g6
      have hg' : W3.cell? ⟨gb, 0, none⟩ = some (.int .i64 g) := HW.out.gb.cell HO.out.2 (by simp)
      have HC := clo_pe x g gb W3 hg'
      have hltz : (k : Int) < (l.length : Int) := by omega
      clear HK hrow hx hg' g0 g1 g2 g3 g4 g5 g6
      cases hp : (x.k == g)
      · rw [hp] at HC
        have HH : Hid (fi (fun x : Pe => x.k == g) (k + 1) (l.drop (k + 1)) = r) := by show _ = _; simpa [hp] using H
        clear H
        go_wp2_with (go_at_call 125; refine HC.mono ?_; rintro e w' ⟨rfl, hfr⟩; have HW' : Hid (Fr [] w w') := HW.out.trans hfr (by simp); clear HW hfr)
        go_roundw
        case rel => exact ⟨k + 1, by omega, by go_num, HH, HW'⟩
        case measure => simp [intOf]; omega
      · rw [hp] at HC
        have HH : Hid ((k : Int) = r) := by show _ = _; simpa [hp] using H
        clear H
        go_wp2_with (go_at_call 125; refine HC.mono ?_; rintro e w' ⟨rfl, hfr⟩; have HW' : Hid (Fr [] w w') := HW.out.trans hfr (by simp); clear HW hfr)
        go_ret
        exact ⟨ret_int HH.out, HW'.out⟩
    · have hkk : k = l.length := by omega
      have HH : Hid ((-1 : Int) = r) := by have := HK.out; rw [hkk] at this; show _ = _; simpa [fi] using this
      clear HK
      subst hkk
      go_wp2
      go_ret
      exact ⟨ret_int HH.out, HW.out⟩

theorem contains_pe (gg cap : Nat) (l : List (Pe)) (g : Int) (gb : Nat) (w : World) (ho : w.heap[gg]? = some (.cells (psC l).toArray 112 (0, 0))) (hcap : l.length ≤ cap) (hg : w.cell? ⟨gb, 0, none⟩ = some (.int .i64 g)) (hl : l.length ≤ 1000000) :
    Calls Tryz.prog 124 #[.slice (some ⟨gg, 0, none⟩) l.length cap, .func (.func 125) #[] #[.pointer (some ⟨gb, 0, none⟩)]] w fun e w' => e = .returned (.bool (l.any fun x => x.k == g)) ∧ Fr [] w w' := by
  have HI : Hid (Calls Tryz.prog 142 #[.slice (some ⟨gg, 0, none⟩) l.length cap, .func (.func 125) #[] #[.pointer (some ⟨gb, 0, none⟩)]] w fun e w' => e = .returned (.int .i64 (fi (fun x : Pe => x.k == g) 0 l)) ∧ Fr [] w w') := index_pe gg cap l g gb w ho hcap hg hl
  have hd := fi_dec (fun x : Pe => x.k == g) l
  obtain ⟨r, hr⟩ : ∃ r, fi (fun x : Pe => x.k == g) 0 l = r := ⟨_, rfl⟩
  rw [hr] at HI hd
  rw [← hd]
  clear ho hg hr hd
  go_enter Tryz.func124, Tryz.ntmps124
  go_wp2_with (first
    | (go_at_call 142; refine HI.out.mono ?_; rintro e w1 ⟨rfl, f1⟩; have H1 : Hid (Fr [] w w1) := f1; clear f1))
  go_ret
  exact ⟨rfl, H1.out⟩
end Go.Proofs.YthdhegmlknpllabGreatDoor

/-
  The walks of node's Source.has (87) and knowsOfAny (92).
-/
namespace Go.Proofs.YthdhegmlknpllabGreatDoor
open Go.RowKit Go.Maps Go.MuLone

set_option maxRecDepth 100000 in
set_option maxHeartbeats 800000 in
theorem knows_any (B b xb pb RB : Nat) (s : Sto) (last : Int) (ra : Option Addr) (rs : List (Int × Int)) (rc : Nat) (ev wt mo ti : Int) (ps : List Pe) (g : Int) (w : World) (h : SK B b xb pb RB w s last ra rs rc ev wt mo ti ps) (hl : ps.length ≤ 3) :
    Calls Tryz.prog 92 #[.pointer (some ⟨xb, 0, none⟩), .int .i64 g] w fun e w' => e = .returned (.bool (ps.any fun x => x.k == g)) ∧ Fr [] w w' := by
  have c7 := h.sc.c7
  obtain ⟨w1, hw1⟩ : ∃ w1, w.alloc (.cells #[.int .i64 g] 3) = w1 := ⟨_, rfl⟩
  obtain ⟨gb, hgb⟩ : ∃ gb, w.heap.size = gb := ⟨_, rfl⟩
  have n1 : w1.heap[gb]? = some (.cells #[.int .i64 g] 3 (0, 0)) := by rw [← hw1, ← hgb]; exact heap_alloc_new w _
  have f1 : Fr [] w w1 := by rw [← hw1]; exact (Fr.refl _ _).alloc _
  have HC : Hid (Calls Tryz.prog 124 #[.slice (some ⟨pb, 0, none⟩) ps.length ps.length, .func (.func 125) #[] #[.pointer (some ⟨gb, 0, none⟩)]] w1 fun e w' => e = .returned (.bool (ps.any fun x => x.k == g)) ∧ Fr [] w1 w') :=
    contains_pe pb ps.length ps g gb w1 (by rw [f1.block pb (Array.getElem?_eq_some_iff.1 h.pr).1 (by simp)]; exact h.pr) (Nat.le_refl _) (by rw [cell_of n1]; rfl) (by omega)
  have d7 : w1.cell? ⟨xb, 7, none⟩ = some (.slice (some ⟨pb, 0, none⟩) ps.length ps.length) := (h.same f1).sc.c7
  have H1 : Hid (Fr [] w w1) := f1
  obtain ⟨r, hr⟩ : ∃ r, (ps.any fun x => x.k == g) = r := ⟨_, rfl⟩
  obtain ⟨n, hn⟩ : ∃ n, ps.length = n := ⟨_, rfl⟩
  rw [hr] at HC ⊢
  rw [hn] at HC c7 d7
  clear h n1 f1 hr hl hn
  go_enter Tryz.func92, Tryz.ntmps92
  go_wp2_with (first
    | (go_at_call 124; refine HC.out.mono ?_; rintro e w2 ⟨rfl, f2⟩; have H2 : Hid (Fr [] w w2) := H1.out.trans f2 (by simp); clear f2))
  go_ret
  exact ⟨rfl, H2.out⟩

/-- What has tells. -/
def hasB (s : Sto) (g : Int) : Bool := (s.ss.any fun x => x.guid == g) || (s.ms.any fun x => x.1 == g)

set_option maxRecDepth 100000 in
set_option maxHeartbeats 1600000 in
theorem has_any (B b xb pb RB : Nat) (s : Sto) (last : Int) (ra : Option Addr) (rs : List (Int × Int)) (rc : Nat) (ev wt mo ti : Int) (ps : List Pe) (g : Int) (w : World) (h : SK B b xb pb RB w s last ra rs rc ev wt mo ti ps) (hl : s.ss.length ≤ 12) (hm : s.ms.length ≤ 12) :
    Calls Tryz.prog 87 #[.pointer (some ⟨xb, 0, none⟩), .int .i64 g] w fun e w' => e = .returned (.bool (hasB s g)) ∧ Rep B w' b 0 s ∧ Fr (foot b s) w w' := by
  obtain ⟨w1, hw1⟩ : ∃ w1, w.alloc (.cells #[.int .i64 g] 3) = w1 := ⟨_, rfl⟩
  obtain ⟨gb, hgb⟩ : ∃ gb, w.heap.size = gb := ⟨_, rfl⟩
  have n1 : w1.heap[gb]? = some (.cells #[.int .i64 g] 3 (0, 0)) := by rw [← hw1, ← hgb]; exact heap_alloc_new w _
  have f1 : Fr [] w w1 := by rw [← hw1]; exact (Fr.refl _ _).alloc _
  have k1 := h.same f1
  have c0 : w1.cell? ⟨xb, 0, none⟩ = some (.pointer (some ⟨b, 0, none⟩)) := k1.sc.c0
  have q1 : w1.cell? ⟨gb, 0, none⟩ = some (.int .i64 g) := by rw [cell_of n1]; rfl
  have hgf : gb ∉ foot b s := tag_foot k1.rep n1 (by decide)
  have HS : Hid (∀ W, Rep B W b 0 s → Calls Tryz.prog 14 #[.pointer (some ⟨b, 0, none⟩)] W fun e w' => ∃ gg, e = .returned (.slice (some ⟨gg, 0, none⟩) s.ss.length s.ss.length) ∧ W.heap.size ≤ gg ∧ w'.heap[gg]? = some (.cells (tlC (s.ss.map t3)).toArray 55 (0, 0)) ∧ Rep B w' b 0 s ∧ Fr (foot b s) W w') := fun W hW => snaps_any B b s W hW hl
  have HMk : Hid (∀ W, Rep B W b 0 s → Calls Tryz.prog 27 #[.pointer (some ⟨b, 0, none⟩)] W fun e w' => ∃ gg, e = .returned (.slice (some ⟨gg, 0, none⟩) s.ms.length s.ms.length) ∧ W.heap.size ≤ gg ∧ w'.heap[gg]? = some (.cells (i1C (s.ms.map Prod.fst)).toArray 3 (0, 0)) ∧ Rep B w' b 0 s ∧ Fr (foot b s) W w') := fun W hW => marks_any B b s W hW hm
  have hA : ((s.ss.map t3).any fun x => x.1 == g) = (s.ss.any fun x => x.guid == g) := by rw [List.any_map]; rfl
  have hBm : ((s.ms.map Prod.fst).any fun x => g == x) = (s.ms.any fun x => x.1 == g) := by
    rw [List.any_map]
    congr 1
    funext x
    simp [Function.comp, Bool.beq_comm]
  have HC1 : Hid (∀ W gg, W.heap[gg]? = some (.cells (tlC (s.ss.map t3)).toArray 55 (0, 0)) → W.cell? ⟨gb, 0, none⟩ = some (.int .i64 g) → Calls Tryz.prog 118 #[.slice (some ⟨gg, 0, none⟩) s.ss.length s.ss.length, .func (.func 117) #[] #[.pointer (some ⟨gb, 0, none⟩)]] W fun e w' => e = .returned (.bool (s.ss.any fun x => x.guid == g)) ∧ Fr [] W w') := fun W gg h1 h2 => by
    have := contains_sn gg s.ss.length (s.ss.map t3) g gb W h1 (by simp) h2 (by simp; omega)
    rw [List.length_map, hA] at this
    exact this
  have HC2 : Hid (∀ W gg, W.heap[gg]? = some (.cells (i1C (s.ms.map Prod.fst)).toArray 3 (0, 0)) → Calls Tryz.prog 100 #[.slice (some ⟨gg, 0, none⟩) s.ms.length s.ms.length, .int .i64 g] W fun e w' => e = .returned (.bool (s.ms.any fun x => x.1 == g)) ∧ w' = W) := fun W gg h1 => by
    have := contains48 (some ⟨gg, 0, none⟩) (s.ms.map Prod.fst) s.ms.length g W ⟨by simp, fun h0 => ⟨gg, 0, rfl, fun i hi => by
      rw [cell_of h1, Nat.zero_add, List.getElem?_toArray]
      unfold i1C
      rw [List.getElem?_map, List.getElem?_eq_getElem hi]
      rw [tm_get _ _ hi]
      rfl⟩⟩ (by simp; omega)
    rw [List.length_map, hBm] at this
    exact this
  unfold hasB
  obtain ⟨r1, hr1⟩ : ∃ r, (s.ss.any fun x => x.guid == g) = r := ⟨_, rfl⟩
  obtain ⟨r2, hr2⟩ : ∃ r, (s.ms.any fun x => x.1 == g) = r := ⟨_, rfl⟩
  rw [hr1] at HC1 ⊢
  rw [hr2] at HC2 ⊢
  obtain ⟨n, hn⟩ : ∃ n, s.ss.length = n := ⟨_, rfl⟩
  obtain ⟨m, hmm⟩ : ∃ n, s.ms.length = n := ⟨_, rfl⟩
  rw [hn] at HC1 HS
  rw [hmm] at HC2 HMk
  have H1 : Hid (SK B b xb pb RB w1 s last ra rs rc ev wt mo ti ps ∧ Fr [] w w1 ∧ gb ∉ foot b s ∧ w1.heap[gb]? = some (.cells #[.int .i64 g] 3 (0, 0))) := ⟨k1, f1, hgf, n1⟩
  clear h k1 f1 n1 hr1 hr2 hA hBm hl hm hn hmm hgf
  have H1d : Hid (∀ W, Fr [] w1 W → SK B b xb pb RB W s last ra rs rc ev wt mo ti ps ∧ Fr (foot b s) w W ∧ gb < W.heap.size) := fun W hW => ⟨H1.out.1.same hW, ((Fr.refl _ _).trans H1.out.2.1 (by simp)).trans hW (by simp), Nat.lt_of_lt_of_le (Array.getElem?_eq_some_iff.1 H1.out.2.2.2).1 hW.size⟩
  cases r1
  · go_enter Tryz.func87, Tryz.ntmps87
    go_wp2
    go_region_held3 (fun w' => w'.cell? ⟨xb, 0, none⟩ = some (.pointer (some ⟨b, 0, none⟩)) ∧ w'.cell? ⟨gb, 0, none⟩ = some (.int .i64 g))
      (first
        | exact ⟨cc4, q4⟩
        | exact ⟨cc3, q3⟩
        | exact ⟨cc2, q2⟩
        | go_keep)
      (first
        | (go_at_call 100; refine (HC2.out _ mg H4.out.2.2).mono ?_; rintro e w5 ⟨rfl, hw5⟩; have hw5' := hw5.symm; subst hw5')
        | (go_at_call 27; refine (HMk.out _ H3.out.1).mono ?_; rintro e w4 ⟨mg, rfl, hmg, hm4, r4, f4⟩; have k4 : SK B b xb pb RB w4 s last ra rs rc ev wt mo ti ps := H3.out.2.2.2.step r4 f4; have q4 : w4.cell? ⟨gb, 0, none⟩ = some (.int .i64 g) := (World.cell?_of_block (f4.block gb H3.out.2.2.1 H1.out.2.2.1)).trans q3; have cc4 : w4.cell? ⟨xb, 0, none⟩ = some (.pointer (some ⟨b, 0, none⟩)) := k4.sc.c0; have H4 : Hid (Rep B w4 b 0 s ∧ Fr (foot b s) w w4 ∧ w4.heap[mg]? = some (.cells (i1C (s.ms.map Prod.fst)).toArray 3 (0, 0))) := ⟨r4, H3.out.2.1.trans f4 (fun k hk => Or.inl hk), hm4⟩; clear r4 f4 hm4 k4 hmg)
        | (go_at_call 118; refine (HC1.out _ gg H2.out.2.2.1 q2).mono ?_; rintro e w3 ⟨rfl, f3⟩; have k3 : SK B b xb pb RB w3 s last ra rs rc ev wt mo ti ps := H2.out.2.2.2.2.same f3; have cc3 : w3.cell? ⟨xb, 0, none⟩ = some (.pointer (some ⟨b, 0, none⟩)) := k3.sc.c0; have q3 : w3.cell? ⟨gb, 0, none⟩ = some (.int .i64 g) := f3.gb.cell q2 (by simp); have H3 : Hid (Rep B w3 b 0 s ∧ Fr (foot b s) w w3 ∧ gb < w3.heap.size ∧ SK B b xb pb RB w3 s last ra rs rc ev wt mo ti ps) := ⟨H2.out.1.kept0 f3, H2.out.2.1.trans f3 (by simp), Nat.lt_of_lt_of_le H2.out.2.2.2.1 f3.size, k3⟩; clear f3 k3)
        | (go_at_call 14; refine (HS.out _ (by first | exact (H1d.out _ (Fr.refl [] w1)).1.rep | exact (H1d.out _ (Fr.refl [] w1).drew).1.rep)).mono ?_; rintro e w2 ⟨gg, rfl, hgg, hg2, r2, f2⟩; have q2 : w2.cell? ⟨gb, 0, none⟩ = some (.int .i64 g) := (by first | exact (World.cell?_of_block (f2.block gb (H1d.out _ (Fr.refl [] w1)).2.2 H1.out.2.2.1)).trans q1 | exact (World.cell?_of_block (f2.block gb (H1d.out _ (Fr.refl [] w1).drew).2.2 H1.out.2.2.1)).trans q1); have k2 : SK B b xb pb RB w2 s last ra rs rc ev wt mo ti ps := (by first | exact (H1d.out _ (Fr.refl [] w1)).1.step r2 f2 | exact (H1d.out _ (Fr.refl [] w1).drew).1.step r2 f2); have cc2 : w2.cell? ⟨xb, 0, none⟩ = some (.pointer (some ⟨b, 0, none⟩)) := k2.sc.c0; have g2 : Fr (foot b s) w w2 := (by first | exact (H1d.out _ (Fr.refl [] w1)).2.1.trans f2 (fun k hk => Or.inl hk) | exact (H1d.out _ (Fr.refl [] w1).drew).2.1.trans f2 (fun k hk => Or.inl hk)); have l2 : gb < w2.heap.size := (by first | exact Nat.lt_of_lt_of_le (H1d.out _ (Fr.refl [] w1)).2.2 f2.size | exact Nat.lt_of_lt_of_le (H1d.out _ (Fr.refl [] w1).drew).2.2 f2.size); have H2 : Hid (Rep B w2 b 0 s ∧ Fr (foot b s) w w2 ∧ w2.heap[gg]? = some (.cells (tlC (s.ss.map t3)).toArray 55 (0, 0)) ∧ gb < w2.heap.size ∧ SK B b xb pb RB w2 s last ra rs rc ev wt mo ti ps) := ⟨r2, g2, hg2, l2, k2⟩; clear r2 f2 hg2 k2 g2 l2 hgg))
    all_goals
      go_wp2
      go_ret
      first
        | exact ⟨rfl, H4.out.1, H4.out.2.1⟩
        | exact ⟨rfl, H3.out.1, H3.out.2.1⟩
  · go_enter Tryz.func87, Tryz.ntmps87
    go_wp2
    first
      | go_region_with (first
            | (go_at_call 118; refine (HC1.out _ gg H2.out.2.2.1 q2).mono ?_; rintro e w3 ⟨rfl, f3⟩; have k3 : SK B b xb pb RB w3 s last ra rs rc ev wt mo ti ps := H2.out.2.2.2.2.same f3; have cc3 : w3.cell? ⟨xb, 0, none⟩ = some (.pointer (some ⟨b, 0, none⟩)) := k3.sc.c0; have q3 : w3.cell? ⟨gb, 0, none⟩ = some (.int .i64 g) := f3.gb.cell q2 (by simp); have H3 : Hid (Rep B w3 b 0 s ∧ Fr (foot b s) w w3 ∧ gb < w3.heap.size ∧ SK B b xb pb RB w3 s last ra rs rc ev wt mo ti ps) := ⟨H2.out.1.kept0 f3, H2.out.2.1.trans f3 (by simp), Nat.lt_of_lt_of_le H2.out.2.2.2.1 f3.size, k3⟩; clear f3 k3)
            | (go_at_call 14; refine (HS.out _ (by first | exact (H1d.out _ (Fr.refl [] w1)).1.rep | exact (H1d.out _ (Fr.refl [] w1).drew).1.rep)).mono ?_; rintro e w2 ⟨gg, rfl, hgg, hg2, r2, f2⟩; have q2 : w2.cell? ⟨gb, 0, none⟩ = some (.int .i64 g) := (by first | exact (World.cell?_of_block (f2.block gb (H1d.out _ (Fr.refl [] w1)).2.2 H1.out.2.2.1)).trans q1 | exact (World.cell?_of_block (f2.block gb (H1d.out _ (Fr.refl [] w1).drew).2.2 H1.out.2.2.1)).trans q1); have k2 : SK B b xb pb RB w2 s last ra rs rc ev wt mo ti ps := (by first | exact (H1d.out _ (Fr.refl [] w1)).1.step r2 f2 | exact (H1d.out _ (Fr.refl [] w1).drew).1.step r2 f2); have cc2 : w2.cell? ⟨xb, 0, none⟩ = some (.pointer (some ⟨b, 0, none⟩)) := k2.sc.c0; have g2 : Fr (foot b s) w w2 := (by first | exact (H1d.out _ (Fr.refl [] w1)).2.1.trans f2 (fun k hk => Or.inl hk) | exact (H1d.out _ (Fr.refl [] w1).drew).2.1.trans f2 (fun k hk => Or.inl hk)); have l2 : gb < w2.heap.size := (by first | exact Nat.lt_of_lt_of_le (H1d.out _ (Fr.refl [] w1)).2.2 f2.size | exact Nat.lt_of_lt_of_le (H1d.out _ (Fr.refl [] w1).drew).2.2 f2.size); have H2 : Hid (Rep B w2 b 0 s ∧ Fr (foot b s) w w2 ∧ w2.heap[gg]? = some (.cells (tlC (s.ss.map t3)).toArray 55 (0, 0)) ∧ gb < w2.heap.size ∧ SK B b xb pb RB w2 s last ra rs rc ev wt mo ti ps) := ⟨r2, g2, hg2, l2, k2⟩; clear r2 f2 hg2 k2 g2 l2 hgg))
      | fail
    all_goals
      go_wp2
      go_ret
      exact ⟨rfl, H3.out.1, H3.out.2.1⟩
end Go.Proofs.YthdhegmlknpllabGreatDoor

/-
  A source that goes on; the walk of node's Source.learn (62).
-/
namespace Go.Proofs.YthdhegmlknpllabGreatDoor
open Go.RowKit Go.Maps Go.MuLone

/-- What of a source never turns: where it lies, its numbers. -/
structure SCfg where
  B : Nat
  b : Nat
  xb : Nat
  pb : Nat
  RB : Nat
  last : Int
  ra : Option Addr
  rs : List (Int × Int)
  rc : Nat
  ev : Int
  wt : Int
  mo : Int
def SKc (c : SCfg) (W : World) (s : Sto) (ti : Int) (ps : List Pe) : Prop := SK c.B c.b c.xb c.pb c.RB W s c.last c.ra c.rs c.rc c.ev c.wt c.mo ti ps
/-- A source, as it goes on from w0 and s0. -/
structure SS (c : SCfg) (w0 W : World) (s0 s : Sto) (ti : Int) (ps : List Pe) : Prop where
  sk : SKc c W s ti ps
  fr : Fr (c.xb :: c.pb :: foot c.b s0) w0 W
  ft : ∀ k ∈ foot c.b s, k ∈ foot c.b s0 ∨ w0.heap.size ≤ k
section
variable {c : SCfg} {w0 W W' : World} {s0 s s2 : Sto} {ti : Int} {ps ps2 : List Pe}
theorem SS.start (h : SKc c W s ti ps) : SS c W W s s ti ps := ⟨h, Fr.refl _ _, fun _ hk => Or.inl hk⟩
theorem SS.same (h : SS c w0 W s0 s ti ps) (hf : Fr [] W W') : SS c w0 W' s0 s ti ps := ⟨SK.same h.sk hf, h.fr.trans hf (by simp), h.ft⟩
theorem SS.in (h : SS c w0 W s0 s ti ps) : ∀ k ∈ c.xb :: c.pb :: foot c.b s, k ∈ c.xb :: c.pb :: foot c.b s0 ∨ w0.heap.size ≤ k := fun k hk => by
  simp only [List.mem_cons] at hk ⊢
  rcases hk with h1 | h1 | h1
  · exact Or.inl (Or.inl h1)
  · exact Or.inl (Or.inr (Or.inl h1))
  · exact (h.ft k h1).imp_left (fun h2 => Or.inr (Or.inr h2))
theorem SS.trans (h : SS c w0 W s0 s ti ps) (h2 : SS c W W' s s2 ti ps2) : SS c w0 W' s0 s2 ti ps2 :=
  ⟨h2.sk, h.fr.trans h2.fr h.in, fun k hk => by
    rcases h2.ft k hk with h3 | h3
    · exact h.ft k h3
    · have := h.fr.size
      exact Or.inr (by omega)⟩
theorem SS.step (h : SS c w0 W s0 s ti ps) (hr : Rep c.B W' c.b 0 s2) (hf : Fr (foot c.b s) W W') (ht : ∀ k ∈ foot c.b s2, k ∈ foot c.b s ∨ W.heap.size ≤ k) : SS c w0 W' s0 s2 ti ps :=
  h.trans ⟨SK.step h.sk hr hf, hf.mono (fun _ hk => List.mem_cons_of_mem _ (List.mem_cons_of_mem _ hk)), ht⟩
theorem SS.setP (h : SS c w0 W s0 s ti ps) (i j : Nat) (v : Value) (p : Pe) (hi : i < ps.length) (hj : j < 7) (hp : p.cells = (ps[i].cells).set j v) : SS c w0 (W.setCell ⟨c.pb, i * 7 + j, none⟩ v) s0 s ti (ps.set i p) :=
  ⟨SK.setP h.sk i j v p hi hj hp, h.fr.setCell _ (Or.inl (by simp)), h.ft⟩
end

/-- A call of the store that is asked for one number. -/
def StC1 (B b f : Nat) (g : Int) (s : Sto) (Q : Sto → Prop) : Prop :=
  ∀ W, Rep B W b 0 s → Calls Tryz.prog f #[.pointer (some ⟨b, 0, none⟩), .int .i64 g] W fun e w' => ∃ (en : Int) (s2 : Sto), e = .returned (.int .i64 en) ∧ Q s2 ∧ Rep B w' b 0 s2 ∧ Fr (foot b s) W w' ∧ ∀ k ∈ foot b s2, k ∈ foot b s ∨ W.heap.size ≤ k

/-- What learn leaves. -/
def LnPost (c : SCfg) (w w' : World) (s : Sto) (ti : Int) (ps : List Pe) (Q : Sto → Prop) : Prop := ∃ s2, Q s2 ∧ SS c w w' s s2 ti ps

set_option maxRecDepth 100000 in
set_option maxHeartbeats 1600000 in
theorem learn_any (c : SCfg) (s : Sto) (ti : Int) (ps : List Pe) (i : Nat) (p : Pe) (g : Int) (Q1 Q : Sto → Prop) (w : World) (h : SKc c w s ti ps) (hi : i < ps.length) (hp : ps[i] = p) (hl : ps.length ≤ 3)
    (hm : StC1 c.B c.b 91 g s Q1)
    (hu : ∀ s1, Q1 s1 → ((ps.set i { p with k := g }).any fun x => x.k == p.k) = false → StC1 c.B c.b 93 p.k s1 Q)
    (hn : ∀ s1, Q1 s1 → ((ps.set i { p with k := g }).any fun x => x.k == p.k) = true → Q s1) :
    Calls Tryz.prog 62 #[.pointer (some ⟨c.xb, 0, none⟩), .int .i64 i, .int .i64 g] w fun e w' => e = .returned (.tuple #[]) ∧ LnPost c w w' s ti (ps.set i { p with k := g }) Q := by
  have HI : Hid (∃ h : i < ps.length, ps[i] = p) := ⟨hi, hp⟩
  obtain ⟨n, hn'⟩ : ∃ n, ps.length = n := ⟨_, rfl⟩
  have HH : Hid (SS c w w s s ti ps) := SS.start h
  have c0 : w.cell? ⟨c.xb, 0, none⟩ = some (.pointer (some ⟨c.b, 0, none⟩)) := h.sc.c0
  have HM : Hid (StC1 c.B c.b 91 g s Q1) := hm
  obtain ⟨a, ha⟩ : ∃ a, ((ps.set i { p with k := g }).any fun x => x.k == p.k) = a := ⟨_, rfl⟩
  rw [ha] at hu hn
  have HU : Hid (∀ s1, Q1 s1 → a = false → StC1 c.B c.b 93 p.k s1 Q) := hu
  have HN : Hid (∀ s1, Q1 s1 → a = true → Q s1) := hn
  have HK : Hid (∀ W s1, SKc c W s1 ti (ps.set i { p with k := g }) → Calls Tryz.prog 92 #[.pointer (some ⟨c.xb, 0, none⟩), .int .i64 p.k] W fun e w' => e = .returned (.bool a) ∧ Fr [] W w') := fun W s1 hW => by
    rw [← ha]
    exact knows_any _ _ _ _ _ s1 _ _ _ _ _ _ _ ti (ps.set i { p with k := g }) p.k W hW (by rw [List.length_set]; exact hl)
  have HR : Hid (SKc c w s ti ps) := h
  have hltz : (i : Int) < (n : Int) := by omega
  have i0 : (0 : Int) ≤ (i : Int) := by omega
  have HNn : Hid (ps.length = n) := hn'
  clear h hm hu hn ha hi hp hn' hl
  obtain ⟨kk, hkk⟩ : ∃ kk, p.k = kk := ⟨_, rfl⟩
  have HKK : Hid (p.k = kk) := hkk
  rw [hkk] at HU HK
  clear hkk
  cases a
  all_goals
    go_enter Tryz.func62, Tryz.ntmps62
    go_wp2_with (first
      | (go_at_call 93; refine (HU.out s1 H1.out.1 (by first | rfl | trivial) _ H3.out.sk.rep).mono ?_; rintro e w4 ⟨en4, s4, rfl, q4, r4, f4, t4⟩
         have H4 : Hid (LnPost c w w4 s ti (ps.set i { p with k := g }) Q) := ⟨s4, q4, H3.out.step r4 f4 t4⟩
         clear q4 r4 f4 t4)
      | (go_at_call 92; refine (HK.out _ s1 ?_).mono ?_; · exact (H1.out.2.setP i 0 (.int .i64 g) { p with k := g } HI.out.1 (by omega) (by rw [HI.out.2]; rfl)).sk
         rintro e w3 ⟨rfl, f3⟩
         have H3 : Hid (SS c w w3 s s1 ti (ps.set i { p with k := g })) := (H1.out.2.setP i 0 (.int .i64 g) { p with k := g } HI.out.1 (by omega) (by rw [HI.out.2]; rfl)).same f3
         have cc3 : w3.cell? ⟨c.xb, 0, none⟩ = some (.pointer (some ⟨c.b, 0, none⟩)) := H3.out.sk.sc.c0
         clear f3)
      | (go_at_call 91; refine (HM.out _ HR.out.rep).mono ?_; rintro e w1 ⟨en1, s1, rfl, q1, r1, f1, t1⟩
         have H1 : Hid (Q1 s1 ∧ SS c w w1 s s1 ti ps) := ⟨q1, HH.out.step r1 f1 t1⟩
         have cc7 : w1.cell? ⟨c.xb, 7, none⟩ = some (.slice (some ⟨c.pb, 0, none⟩) n n) := by
           have := H1.out.2.sk.sc.c7
           rw [HNn.out] at this
           exact this
         have pp0 : w1.cell? ⟨c.pb, i * 7, none⟩ = some (.int .i64 kk) := by
           have := (H1.out.2.sk.pc i HI.out.1).c0
           rw [HI.out.2, HKK.out] at this
           exact this
         have zz0 : w1.frozen? ⟨c.pb, i * 7, none⟩ = false := froz_of H1.out.2.sk.pr _
         clear q1 r1 f1 t1 c0))
    go_end0
    first
      | exact ⟨rfl, H4.out⟩
      | exact ⟨rfl, s1, HN.out s1 H1.out.1 (by first | rfl | trivial), H3.out⟩
end Go.Proofs.YthdhegmlknpllabGreatDoor

/-
  What the calls of its store do to a source's: Mark, Unmark, Hold, Release.
-/
namespace Go.Proofs.YthdhegmlknpllabGreatDoor
open Go.RowKit Go.Maps Go.MuLone

set_option maxRecDepth 100000 in
set_option maxHeartbeats 800000 in
theorem unmark_none (B b : Nat) (s : Sto) (g : Int) (w : World) (h : Rep B w b 0 s) (hl : s.ms.length ≤ 12) (hf : fi (fun y : Int × Int => y.1 == g) 0 s.ms = -1) :
    Calls Tryz.prog 93 #[.pointer (some ⟨b, 0, none⟩), .int .i64 g] w fun e w' => e = .returned (.int .i64 3) ∧ Rep B w' b 0 s ∧ Fr (foot b s) w w' := by
  have R1 := h.lock 1
  obtain ⟨w1, hw1⟩ : ∃ w1, w.setCell ⟨b, 0, none⟩ (.int .i32 1) = w1 := ⟨_, rfl⟩
  rw [hw1] at R1
  have HL := lock_free Tryz.muLib ⟨b, 0, none⟩ w h.cells.1 (h.frozen 0)
  have F1 : Fr (foot b s) w w1 := by rw [← hw1]; exact fr_lock b s w _
  have HF : Hid (w.setCell ⟨b, 0, none⟩ (.int .i32 1) = w1 ∧ Rep B w1 b 1 s ∧ Fr (foot b s) w w1) := ⟨hw1, R1, F1⟩
  have HS := findMark_any B b 1 s g w1 R1 (by omega)
  rw [hf] at HS
  clear h R1 F1 hw1 hf
  go_enter_defers Tryz.func93, Tryz.ntmps93
  go_wp2_with (first
    | (go_at_call 30; refine HL.mono ?_; rintro e w' ⟨rfl, hw'⟩; rw [HF.out.1] at hw'; have hw' := hw'.symm; subst hw')
    | (go_at_call 102; refine HS.mono ?_; rintro e w2 ⟨rfl, hfr⟩
       have HR2 : Hid (Rep B w2 b 1 s ∧ Fr (foot b s) w w2) := ⟨HF.out.2.1.kept0 hfr, HF.out.2.2.trans hfr (by simp)⟩
       clear hfr))
  refine leaves_cons (f := 31) (args := #[.pointer (some ⟨b, 0, none⟩)]) (by simp) (by simp [go_sem]) ?_
  refine (unlock_deferred Tryz.muLib ⟨b, 0, none⟩ .returning _ HR2.out.1.cells.1 (HR2.out.1.frozen 0)).mono ?_
  rintro e u' w'' ⟨rfl, rfl, rfl⟩
  exact ⟨_, results_tmp rfl _ _ _, rfl, HR2.out.1.lock 0, HR2.out.2.setCell _ (Or.inl (by simp [foot]))⟩

/-- All but holds and marks is as it was. -/
structure Hm (s s2 : Sto) : Prop where
  id : s2.id = s.id
  vol : s2.vol = s.vol
  th : s2.th = s.th
  cm : s2.came = s.came
  tk : s2.taken = s.taken
  cn : s2.cnt = s.cnt
  lg : s2.log.length ≤ s.log.length + 10
/-- Marks turn. -/
structure MsU (s s2 : Sto) (P : List (Int × Int) → Prop) : Prop where
  hm : Hm s s2
  ss : s2.ss = s.ss
  ms : P s2.ms
theorem MsU.none {s : Sto} {P : List (Int × Int) → Prop} (h : P s.ms) : MsU s s P := ⟨⟨rfl, rfl, rfl, rfl, rfl, rfl, by omega⟩, rfl, h⟩

theorem noted_foot {b : Nat} {s s1 : Sto} {c : UInt8} {t : ByteArray} {lv : Value} {N : Nat} (h : ∀ k ∈ foot b s1, k ∈ foot b s ∨ N ≤ k) (hl : ∀ k, lv.ownBlock = some k → s.lv.ownBlock = some k ∨ N ≤ k) : ∀ k ∈ foot b (s1.noted c t lv), k ∈ foot b s ∨ N ≤ k := by
  intro k hk
  simp only [foot, Sto.noted, List.mem_append, List.mem_cons, List.not_mem_nil, or_false, Option.mem_toList] at hk h ⊢
  rcases hk with ((h1 | h1) | h1) | h1
  · exact h k (Or.inl (Or.inl (Or.inl h1)))
  · exact h k (Or.inl (Or.inl (Or.inr h1)))
  · exact h k (Or.inl (Or.inr h1))
  · exact (hl k h1).imp_left Or.inr

/-- Marks as the source has them. -/
def MkS (l : List (Int × Int)) : Prop := l.Pairwise (fun a b => a.2 < b.2) ∧ ∀ m ∈ l, m.2 = m.1 - 1000000
theorem MkS.eq {l : List (Int × Int)} (h : MkS l) {m : Int × Int} (hm : m ∈ l) : m = (m.1, m.1 - 1000000) := by
  rw [← h.2 m hm]

theorem st_mark (B b : Nat) (s : Sto) (g : Int) (hl : s.ss.length ≤ 12) (hml : s.ms.length < 12) (hM : MkS s.ms) (hg : ∃ x ∈ s.ss, x.guid = g) (hc : ∀ x ∈ s.ss, x.guid = g → x.came = g - 1000000) (hb : ∀ m ∈ s.ms, 0 ≤ m.2 ∧ m.2 ≤ 1000000000000) (hgb : 1000000 ≤ g ∧ g ≤ 1000000000000) (hlg : s.log.length ≤ 140000000000000) :
    StC1 B b 91 g s (fun s1 => MsU s s1 (fun l => MkS l ∧ ∀ m, m ∈ l ↔ m ∈ s.ms ∨ m = (g, g - 1000000))) := fun W hW => by
  by_cases hin : ∃ m ∈ s.ms, m.1 = g
  · obtain ⟨j, _, hj, _⟩ := fi_some (p := fun y : Int × Int => y.1 == g) s.ms 0 (by obtain ⟨m, hm, e⟩ := hin; exact ⟨m, hm, by simp [e]⟩)
    rw [Nat.zero_add] at hj
    refine (mark_again B b s g W hW (by omega) j hj).mono ?_
    rintro e w' ⟨rfl, r, f⟩
    refine ⟨0, s, rfl, MsU.none ⟨hM, fun m => ⟨Or.inl, fun h => ?_⟩⟩, r, f, fun _ hk => Or.inl hk⟩
    rcases h with h | rfl
    · exact h
    · obtain ⟨m, hm, e⟩ := hin
      rw [hM.eq hm, e] at hm
      exact hm
  · obtain ⟨j, hjl, hj, hjp⟩ := fi_some (p := fun y : Sn => y.guid == g) s.ss 0 (by obtain ⟨m, hm, e⟩ := hg; exact ⟨m, hm, by simp [e]⟩)
    rw [Nat.zero_add] at hj
    have hxg : s.ss[j].guid = g := by simpa using hjp
    have hxc := hc _ (List.getElem_mem hjl) hxg
    refine (mark_new B b s g j s.ss[j] W hW hl hml hj (List.getElem?_eq_getElem hjl) (fi_none _ _ (fun m hm => ?_)) hb (by rw [hxc]; omega) hlg).mono ?_
    · simp only [beq_eq_false_iff_ne, ne_eq]
      exact fun e => hin ⟨m, hm, e⟩
    rintro e w' ⟨rfl, l, mv, lv, hp, hs, r, f, t1, t2⟩
    rw [hxc] at hp
    have hmem : ∀ m, m ∈ l ↔ m ∈ s.ms ∨ m = (g, g - 1000000) := fun m => by
      rw [hp.mem_iff, List.mem_append]
      simp
    have hnd : (l.map Prod.snd).Nodup := by
      refine (hp.map Prod.snd).nodup_iff.2 ?_
      rw [List.map_append, List.nodup_append]
      refine ⟨?_, by simp, fun a ha c hc' => ?_⟩
      · rw [List.Nodup, List.pairwise_map]
        exact hM.1.imp (fun h => by omega)
      · obtain ⟨m, hm, rfl⟩ := List.mem_map.1 ha
        simp at hc'
        subst hc'
        intro e
        have := hM.2 m hm
        exact hin ⟨m, hm, by omega⟩
    refine ⟨0, (s.marked l mv).noted 77 (n4 g).ba lv, rfl, ⟨⟨rfl, rfl, rfl, rfl, rfl, rfl, ?_⟩, rfl, ⟨?_, fun m hm => ?_⟩, hmem⟩, r, f, noted_foot (marked_foot t1) t2⟩
    · show (s.log ++ entry 77 (n4 g).ba).length ≤ _
      rw [List.length_append]
      have e : (entry 77 (n4 g).ba).length = 6 := rfl
      omega
    · have h2 := List.pairwise_map.1 hnd
      exact (hs.and h2).imp (fun h => by omega)
    · rcases (hmem m).1 hm with h | rfl
      · exact hM.2 m h
      · rfl

theorem st_unmark (B b : Nat) (s : Sto) (g : Int) (hml : s.ms.length ≤ 12) (hM : MkS s.ms) (hlg : s.log.length ≤ 140000000000000) :
    StC1 B b 93 g s (fun s1 => MsU s s1 (fun l => MkS l ∧ ∀ m, m ∈ l ↔ m ∈ s.ms ∧ m.1 ≠ g)) := fun W hW => by
  by_cases hin : ∃ m ∈ s.ms, m.1 = g
  · obtain ⟨j, hjl, hj, hjp⟩ := fi_some (p := fun y : Int × Int => y.1 == g) s.ms 0 (by obtain ⟨m, hm, e⟩ := hin; exact ⟨m, hm, by simp [e]⟩)
    rw [Nat.zero_add] at hj
    have hxg : s.ms[j].1 = g := by simpa using hjp
    refine (unmark_ok B b s g j W hW hml hj hjl hlg).mono ?_
    rintro e w' ⟨rfl, mv, lv, r, f, t1, t2⟩
    have hmem : ∀ m, m ∈ s.ms.eraseIdx j ↔ m ∈ s.ms ∧ m.1 ≠ g := fun m => by
      have hpw := List.pairwise_iff_getElem.1 hM.1
      constructor
      · intro hm
        obtain ⟨i, hi, hij, e⟩ := List.mem_eraseIdx_iff_getElem.1 hm
        refine ⟨by rw [← e]; exact List.getElem_mem _, fun h => ?_⟩
        have h1 := hM.2 _ (List.getElem_mem hi)
        have h2 := hM.2 _ (List.getElem_mem hjl)
        rw [← e] at h
        rcases Nat.lt_or_gt_of_ne hij with h3 | h3
        · have := hpw i j hi hjl h3; omega
        · have := hpw j i hjl hi h3; omega
      · rintro ⟨hm, h⟩
        obtain ⟨i, hi, e⟩ := List.getElem_of_mem hm
        refine List.mem_eraseIdx_iff_getElem.2 ⟨i, hi, fun hij => ?_, e⟩
        subst hij
        exact h (by rw [← e]; exact hxg)
    refine ⟨0, (s.unmark j mv).noted 85 (n4 g).ba lv, rfl, ⟨⟨rfl, rfl, rfl, rfl, rfl, rfl, ?_⟩, rfl, ⟨?_, fun m hm => hM.2 m ((hmem m).1 hm).1⟩, hmem⟩, r, f, noted_foot (unmark_foot t1) t2⟩
    · show (s.log ++ entry 85 (n4 g).ba).length ≤ _
      rw [List.length_append]
      have e : (entry 85 (n4 g).ba).length = 6 := rfl
      omega
    · exact hM.1.sublist (List.eraseIdx_sublist _ _)
  · refine (unmark_none B b s g W hW hml (fi_none _ _ (fun m hm => ?_))).mono ?_
    · simp only [beq_eq_false_iff_ne, ne_eq]
      exact fun e => hin ⟨m, hm, e⟩
    rintro e w' ⟨rfl, r, f⟩
    exact ⟨3, s, rfl, MsU.none ⟨hM, fun m => ⟨fun h => ⟨h, fun e => hin ⟨m, h, e⟩⟩, fun h => h.1⟩⟩, r, f, fun _ hk => Or.inl hk⟩

/-- One snapshot's holds turn by d. -/
structure HoU (s s2 : Sto) (g d : Int) : Prop where
  hm : Hm s s2
  ms : s2.ms = s.ms
  ss : s2.ss.map Sn.key = s.ss.map Sn.key
  ho : ∀ x ∈ s2.ss, ∃ y ∈ s.ss, y.guid = x.guid ∧ x.holds = y.holds + if x.guid = g then d else 0

theorem setH_U {s : Sto} {j : Nat} {x : Sn} {g d : Int} {c : UInt8} {t : ByteArray} {lv : Value} (hx : s.ss[j]? = some x) (hg : x.guid = g) (hu : (s.ss.map Sn.guid).Nodup) (ht : t.size ≤ 4) : HoU s ((s.setH j x (x.holds + d)).noted c t lv) g d := by
  refine ⟨⟨rfl, rfl, rfl, rfl, rfl, rfl, ?_⟩, rfl, ?_, ?_⟩
  · show (s.log ++ entry c t).length ≤ _
    rw [List.length_append]
    have e : (entry c t).length = t.size + 2 := by simp [entry]
    omega
  · show (s.ss.set j (x.hold (x.holds + d))).map Sn.key = _
    rw [List.map_set]
    exact set_self _ _ _ (by rw [List.getElem?_map, hx]; rfl)
  · intro y hy
    have hy' : y ∈ s.ss.set j (x.hold (x.holds + d)) := hy
    obtain ⟨i, hi, e⟩ := List.getElem_of_mem hy'
    have hi' : i < s.ss.length := by simpa using hi
    have hj : j < s.ss.length := (List.getElem?_eq_some_iff.1 hx).1
    have hxj : s.ss[j] = x := (List.getElem?_eq_some_iff.1 hx).2
    rw [List.getElem_set] at e
    by_cases hij : j = i
    · rw [if_pos hij] at e
      subst e
      exact ⟨x, List.mem_of_getElem? hx, rfl, by show x.holds + d = _; rw [if_pos (by exact hg)]⟩
    · rw [if_neg hij] at e
      refine ⟨y, by rw [← e]; exact List.getElem_mem _, rfl, ?_⟩
      rw [if_neg (fun h => hij ?_)]
      · omega
      · have h1 := List.pairwise_iff_getElem.1 hu
        have e1 : (s.ss.map Sn.guid)[j]'(by simpa using hj) = (s.ss.map Sn.guid)[i]'(by simpa using hi') := by
          rw [List.getElem_map, List.getElem_map, hxj, e, hg, h]
        rcases Nat.lt_trichotomy j i with h3 | h3 | h3
        · exact absurd e1 (h1 j i (by simpa using hj) (by simpa using hi') h3)
        · exact h3
        · exact absurd e1.symm (h1 i j (by simpa using hi') (by simpa using hj) h3)

theorem st_release (B b : Nat) (s : Sto) (g : Int) (hl : s.ss.length ≤ 12) (hu : (s.ss.map Sn.guid).Nodup) (hg : ∃ x ∈ s.ss, x.guid = g) (hh : ∀ x ∈ s.ss, x.guid = g → 0 < x.holds ∧ x.holds ≤ 9) (hlg : s.log.length ≤ 140000000000000) :
    StC1 B b 94 g s (fun s1 => HoU s s1 g (-1)) := fun W hW => by
  obtain ⟨j, hjl, hj, hjp⟩ := fi_some (p := fun y : Sn => y.guid == g) s.ss 0 (by obtain ⟨m, hm, e⟩ := hg; exact ⟨m, hm, by simp [e]⟩)
  rw [Nat.zero_add] at hj
  have hxg : s.ss[j].guid = g := by simpa using hjp
  refine (release_ok B b s g j s.ss[j] W hW hl hj (List.getElem?_eq_getElem hjl) (hh _ (List.getElem_mem hjl) hxg) hlg).mono ?_
  rintro e w' ⟨rfl, lv, r, f, t⟩
  exact ⟨0, (s.setH j s.ss[j] (s.ss[j].holds + -1)).noted 82 (n4 g).ba lv, rfl, setH_U (d := -1) (List.getElem?_eq_getElem hjl) hxg hu (show (n4 g).ba.size ≤ 4 from Nat.le_refl 4), r, f, noted_foot (s1 := s.setH j s.ss[j] (s.ss[j].holds + -1)) (fun k hk => Or.inl hk) t⟩
theorem st_hold (B b : Nat) (s : Sto) (g : Int) (hl : s.ss.length ≤ 12) (hu : (s.ss.map Sn.guid).Nodup) (hg : ∃ x ∈ s.ss, x.guid = g) (hh : ∀ x ∈ s.ss, x.guid = g → 0 ≤ x.holds ∧ x.holds < 9) (hlg : s.log.length ≤ 140000000000000) (W : World) (hW : Rep B W b 0 s) :
    Calls Tryz.prog 121 #[.pointer (some ⟨b, 0, none⟩), .int .i64 g] W fun e w' => ∃ s3, e = .returned (.int .i64 0) ∧ HoU s s3 g 1 ∧ Rep B w' b 0 s3 ∧ Fr (foot b s) W w' ∧ ∀ k ∈ foot b s3, k ∈ foot b s ∨ W.heap.size ≤ k := by
  obtain ⟨j, hjl, hj, hjp⟩ := fi_some (p := fun y : Sn => y.guid == g) s.ss 0 (by obtain ⟨m, hm, e⟩ := hg; exact ⟨m, hm, by simp [e]⟩)
  rw [Nat.zero_add] at hj
  have hxg : s.ss[j].guid = g := by simpa using hjp
  refine (hold_ok B b s g j s.ss[j] W hW hl hj (List.getElem?_eq_getElem hjl) (hh _ (List.getElem_mem hjl) hxg) hlg).mono ?_
  rintro e w' ⟨rfl, lv, r, f, t⟩
  exact ⟨(s.setH j s.ss[j] (s.ss[j].holds + 1)).noted 72 (n4 g).ba lv, rfl, setH_U (d := 1) (List.getElem?_eq_getElem hjl) hxg hu (show (n4 g).ba.size ≤ 4 from Nat.le_refl 4), r, f, noted_foot (s1 := s.setH j s.ss[j] (s.ss[j].holds + 1)) (fun k hk => Or.inl hk) t⟩
theorem st_release0 (B b : Nat) (s : Sto) (g : Int) (hl : s.ss.length ≤ 12) (hg : ∀ x ∈ s.ss, x.guid ≠ g) : StC1 B b 94 g s (fun s1 => s1 = s) := fun W hW => by
  refine (release_none B b s g W hW hl (fi_none _ _ (fun m hm => by simpa using hg m hm))).mono ?_
  rintro e w' ⟨rfl, r, f⟩
  exact ⟨3, s, rfl, rfl, r, f, fun _ hk => Or.inl hk⟩
end Go.Proofs.YthdhegmlknpllabGreatDoor

/-
  The walk of node's Source.send (61).
-/
namespace Go.Proofs.YthdhegmlknpllabGreatDoor
open Go.RowKit Go.Maps Go.MuLone

/-- Letters in memory. -/
def ltC (l : List (Nat × ByteArray)) : List Value := l.flatMap fun x => [.int .i64 (x.1 : Int), .string x.2]
theorem ltC_len (l : List (Nat × ByteArray)) : (ltC l).length = l.length * 2 := by
  induction l with
  | nil => rfl
  | cons x l ih => simp [ltC] at ih ⊢; omega
theorem ltC_get (l : List (Nat × ByteArray)) (i : Nat) (h : i < l.length) : (ltC l)[i * 2]? = some (.int .i64 (l[i].1 : Int)) ∧ (ltC l)[i * 2 + 1]? = some (.string l[i].2) := by
  have hf : ∀ x : Nat × ByteArray, (([.int .i64 (x.1 : Int), .string x.2] : List Value)).length = 2 := fun _ => rfl
  exact ⟨flat_get hf l i h 0 (by omega), flat_get hf l i h 1 (by omega)⟩

/-- What send leaves. -/
def SnPost (c : SCfg) (w w' : World) (s : Sto) (ti : Int) (ps : List Pe) (i : Nat) (p : Pe) (g aim : Int) (T : ByteArray) (Q2 Q3 : Sto → Prop) (v : Value) : Prop :=
  if g = aim then v = .slice none 0 0 ∧ ∃ s2, Q2 s2 ∧ SS c w w' s s2 ti (ps.set i { p with k := g, x := p.x1 g, aw := 0 })
  else w'.ownsRow w.heap.size 115 2 v 1 (ltC [(i, T)]) ∧ ∃ s3, Q3 s3 ∧ SS c w w' s s3 ti (ps.set i (Pe.post { p with k := g, x := aim } 68 (ti + c.wt)))

/-- The peer, and its source, at the place where it is sent what it lacks. -/
structure Sej (c : SCfg) (w W : World) (s s1 : Sto) (ti : Int) (ps : List Pe) (i : Nat) (p : Pe) (Q : Sto → Prop) : Prop where
  ss : SS c w W s s1 ti (ps.set i p)
  q : Q s1
  hi : i < ps.length
theorem Sej.cells {c : SCfg} {w W : World} {s s1 : Sto} {ti : Int} {ps : List Pe} {i : Nat} {p : Pe} {Q : Sto → Prop} (h : Sej c w W s s1 ti ps i p Q) : W.cell? ⟨c.xb, 0, none⟩ = some (.pointer (some ⟨c.b, 0, none⟩)) ∧ W.cell? ⟨c.xb, 4, none⟩ = some (.int .i64 c.wt) ∧ W.cell? ⟨c.pb, i * 7 + 1, none⟩ = some (.int .i64 p.x) ∧ W.cell? ⟨c.pb, i * 7 + 4, none⟩ = some (.int .u8 p.aw) ∧ W.frozen? ⟨c.pb, i * 7 + 4, none⟩ = false := by
  have P := h.ss.sk.pc i (by rw [List.length_set]; exact h.hi)
  rw [List.getElem_set_self] at P
  exact ⟨h.ss.sk.sc.c0, h.ss.sk.sc.c4, P.c1, P.c4, froz_of h.ss.sk.pr _⟩

section
variable {c : SCfg} {w W W' : World} {s s1 s2 : Sto} {ti : Int} {ps : List Pe} {i : Nat} {p : Pe} {Q : Sto → Prop}
theorem Sej.same (h : Sej c w W s s1 ti ps i p Q) (hf : Fr [] W W') : Sej c w W' s s1 ti ps i p Q := ⟨h.ss.same hf, h.q, h.hi⟩
theorem Sej.step (h : Sej c w W s s1 ti ps i p Q) {Q2 : Sto → Prop} (hr : Rep c.B W' c.b 0 s2) (hf : Fr (foot c.b s1) W W') (ht : ∀ k ∈ foot c.b s2, k ∈ foot c.b s1 ∨ W.heap.size ≤ k) (hq : Q2 s2) : Sej c w W' s s2 ti ps i p Q2 := ⟨h.ss.step hr hf ht, hq, h.hi⟩
theorem Sej.next (h : Sej c w W s s1 ti ps i p Q) {Q2 : Sto → Prop} {p2 : Pe} (hk : SKc c W' s2 ti ((ps.set i p).set i p2)) (hf : Fr (c.pb :: foot c.b s1) W W') (ht : ∀ k ∈ foot c.b s2, k ∈ foot c.b s1 ∨ W.heap.size ≤ k) (hq : Q2 s2) : Sej c w W' s s2 ti ps i p2 Q2 :=
  ⟨h.ss.trans ⟨by rw [List.set_set] at hk; exact hk, hf.mono (fun k hk => List.mem_cons_of_mem _ hk), ht⟩, hq, h.hi⟩
end

theorem Sej.cx {c : SCfg} {w W : World} {s s1 : Sto} {ti : Int} {ps : List Pe} {i : Nat} {p : Pe} {Q : Sto → Prop} (h : Sej c w W s s1 ti ps i p Q) {px : Int} (e : p.x = px) : W.cell? ⟨c.pb, i * 7 + 1, none⟩ = some (.int .i64 px) := by
  rw [← e]
  exact h.cells.2.2.1
theorem Sej.idle {c : SCfg} {w W : World} {s s1 : Sto} {ti : Int} {ps : List Pe} {i : Nat} {p : Pe} {Q : Sto → Prop} (h : Sej c w W s s1 ti ps i p Q) : SS c w (W.setCell ⟨c.pb, i * 7 + 4, none⟩ (.int .u8 0)) s s1 ti (ps.set i { p with aw := 0 }) := by
  have hl2 : i < (ps.set i p).length := by rw [List.length_set]; exact h.hi
  have := h.ss.setP i 4 (.int .u8 0) { p with aw := 0 } hl2 (by omega) (by rw [List.getElem_set_self]; rfl)
  rw [List.set_set] at this
  exact this
/-- A letter that was just made. -/
theorem own_letter {w W : World} (i : Nat) (T : ByteArray) (h : w.heap.size ≤ W.heap.size) : (W.alloc (.cells #[.int .i64 (i : Int), .string T] 115)).ownsRow w.heap.size 115 2 (.slice (some ⟨W.heap.size, 0, none⟩) 1 1) 1 (ltC [(i, T)]) :=
  ⟨rfl, Or.inr ⟨W.heap.size, 1, #[.int .i64 (i : Int), .string T], rfl, h, heap_alloc_new W _, Nat.le_refl _, by unfold maxLen; omega, rfl, rfl⟩⟩

set_option maxRecDepth 100000 in
set_option maxHeartbeats 6400000 in
theorem send_any (c : SCfg) (s : Sto) (ti : Int) (ps : List Pe) (i : Nat) (p : Pe) (g nw aim : Int) (ST : ByteArray) (Q1 Q2 Q3 : Sto → Prop) (w : World) (h : SKc c w s ti ps) (hi : i < ps.length) (hp : ps[i] = p)
    (hl : s.ss.length ≤ 12) (hml : s.ms.length ≤ 12) (haim : p.aim g nw = aim) (hnum : 0 ≤ p.num ∧ p.num ≤ 1000000000) (hti : 0 ≤ ti ∧ ti ≤ 1073741824) (hwt : 0 ≤ c.wt ∧ c.wt ≤ 1000000) (hST : ST.size ≤ 1000000)
    (hlearn : hasB s g = true → ∀ W, SS c w W s s ti ps → Calls Tryz.prog 62 #[.pointer (some ⟨c.xb, 0, none⟩), .int .i64 i, .int .i64 g] W fun e w' => e = .returned (.tuple #[]) ∧ LnPost c W w' s ti (ps.set i { p with k := g }) Q1)
    (hno : hasB s g = false → p.k = g ∧ Q1 s)
    (hforget : g = p.x → ∀ s1, Q1 s1 → StC1 c.B c.b 94 g s1 Q2)
    (hkeep : g ≠ p.x → ∀ s1, Q1 s1 → Q2 s1)
    (hnw : ∀ s2, Q2 s2 → lastG s2.ss = nw ∧ s2.ss.length ≤ 12)
    (hsend : g ≠ aim → ∀ s2, Q2 s2 → ∀ W, Rep c.B W c.b 0 s2 → Calls Tryz.prog 88 #[.pointer (some ⟨c.b, 0, none⟩), .int .i64 g, .int .i64 aim] W fun e w' => e = .returned (.tuple #[.string ST, .int .i64 0]) ∧ Rep c.B w' c.b 0 s2 ∧ Fr (foot c.b s2) W w')
    (hhold : g ≠ aim → p.x1 g = 0 → ∀ s2, Q2 s2 → ∀ W, Rep c.B W c.b 0 s2 → Calls Tryz.prog 121 #[.pointer (some ⟨c.b, 0, none⟩), .int .i64 aim] W fun e w' => ∃ s3, e = .returned (.int .i64 0) ∧ Q3 s3 ∧ Rep c.B w' c.b 0 s3 ∧ Fr (foot c.b s2) W w' ∧ ∀ k ∈ foot c.b s3, k ∈ foot c.b s2 ∨ W.heap.size ≤ k)
    (hagain : p.x1 g ≠ 0 → ∀ s2, Q2 s2 → Q3 s2) :
    Calls Tryz.prog 61 #[.pointer (some ⟨c.xb, 0, none⟩), .int .i64 i, .int .i64 g] w fun e w' => ∃ v, e = .returned v ∧ SnPost c w w' s ti ps i p g aim (ofL (lhead 68 i (p.num + 1) ++ ST.data.toList)) Q2 Q3 v := by
  have hset : ps.set i p = ps := set_self _ _ _ (by rw [List.getElem?_eq_getElem hi, hp])
  have J0 : Sej c w w s s ti ps i p (fun x => x = s) := ⟨by rw [hset]; exact SS.start h, rfl, hi⟩
  have HHas : Hid (Calls Tryz.prog 87 #[.pointer (some ⟨c.xb, 0, none⟩), .int .i64 g] w fun e w' => e = .returned (.bool (hasB s g)) ∧ Rep c.B w' c.b 0 s ∧ Fr (foot c.b s) w w') := has_any _ _ _ _ _ s _ _ _ _ _ _ _ ti ps g w h hl hml
  obtain ⟨hb, hhb⟩ : ∃ hb, hasB s g = hb := ⟨_, rfl⟩
  rw [hhb] at HHas hlearn hno
  obtain ⟨T, hT⟩ : ∃ T, ofL (lhead 68 i (p.num + 1) ++ ST.data.toList) = T := ⟨_, rfl⟩
  have HLn : Hid (hb = true → ∀ W, Sej c w W s s ti ps i p (fun x => x = s) → Calls Tryz.prog 62 #[.pointer (some ⟨c.xb, 0, none⟩), .int .i64 i, .int .i64 g] W fun e w' => e = .returned (.tuple #[]) ∧ ∃ s1, Sej c w w' s s1 ti ps i { p with k := g } Q1) := fun e W hW => by
    refine (hlearn e W (by have := hW.ss; rw [hset] at this; exact this)).mono ?_
    rintro e' w' ⟨rfl, s1, q1, ss1⟩
    have h1 := hW.ss
    rw [hset] at h1
    exact ⟨rfl, s1, h1.trans ss1, q1, hi⟩
  have HNo : Hid (hb = false → ∀ W, Sej c w W s s ti ps i p (fun x => x = s) → Sej c w W s s ti ps i { p with k := g } Q1) := fun e W hW => by
    obtain ⟨e1, q1⟩ := hno e
    have e2 : ({ p with k := g } : Pe) = p := by rw [← e1]
    rw [e2]
    exact ⟨hW.ss, q1, hi⟩
  have HFg : Hid (g = p.x → ∀ W s1, Sej c w W s s1 ti ps i { p with k := g } Q1 → Calls Tryz.prog 63 #[.pointer (some ⟨c.xb, 0, none⟩), .pointer (some ⟨c.pb, i * 7, none⟩)] W fun e w' => e = .returned (.tuple #[]) ∧ ∃ s2, Sej c w w' s s2 ti ps i { p with k := g, x := p.x1 g } Q2) := fun e W s1 hW => by
    have hl2 : i < (ps.set i { p with k := g }).length := by rw [List.length_set]; exact hi
    refine (forget_any c.B c.b c.xb c.pb c.RB s1 c.last c.ra c.rs c.rc c.ev c.wt c.mo ti (ps.set i { p with k := g }) i { p with k := g } (fun s2 => Q2 s2 ∧ ∀ k ∈ foot c.b s2, k ∈ foot c.b s1 ∨ W.heap.size ≤ k) W hW.ss.sk hl2 (List.getElem_set_self hl2) (fun W' hW' => ?_)).mono ?_
    · have h2 := hforget e s1 hW.q W' (hW.ss.sk.rep.kept0 hW')
      have e3 : ({ p with k := g } : Pe).x = g := e.symm
      rw [e3]
      refine h2.mono ?_
      rintro e' w' ⟨en, s2, rfl, q2, r2, f2, t2⟩
      have := hW'.size
      exact ⟨en, s2, rfl, r2, f2, q2, fun k hk => (t2 k hk).imp_right (fun h3 => by omega)⟩
    · rintro e' w' ⟨rfl, s2, ⟨q2, t2⟩, k2, f2⟩
      refine ⟨rfl, s2, hW.next (p2 := { p with k := g, x := p.x1 g }) ?_ f2 t2 q2⟩
      have e4 : p.x1 g = 0 := by unfold Pe.x1; rw [if_pos e]
      rw [e4]
      exact k2
  have HKp : Hid (g ≠ p.x → ∀ W s1, Sej c w W s s1 ti ps i { p with k := g } Q1 → Sej c w W s s1 ti ps i { p with k := g, x := p.x1 g } Q2) := fun e W s1 hW => by
    have e4 : p.x1 g = p.x := by unfold Pe.x1; rw [if_neg e]
    rw [e4]
    exact ⟨hW.ss, hkeep e s1 hW.q, hi⟩
  have HNw : Hid (∀ W s2 pp, Sej c w W s s2 ti ps i pp Q2 → Calls Tryz.prog 36 #[.pointer (some ⟨c.xb, 0, none⟩)] W fun e w' => e = .returned (.int .i64 nw) ∧ Sej c w w' s s2 ti ps i pp Q2) := fun W s2 pp hW => by
    obtain ⟨e1, e2⟩ := hnw s2 hW.q
    rw [← e1]
    refine (newest_any c.B c.b c.xb s2 c.last _ W hW.ss.sk.rep e2 hW.ss.sk.rk.kp).mono ?_
    rintro e w' ⟨rfl, r, f⟩
    exact ⟨rfl, hW.step r f (fun k hk => Or.inl hk) hW.q⟩
  have HSd : Hid (g ≠ aim → ∀ W s2 pp, Sej c w W s s2 ti ps i pp Q2 → Calls Tryz.prog 88 #[.pointer (some ⟨c.b, 0, none⟩), .int .i64 g, .int .i64 aim] W fun e w' => e = .returned (.tuple #[.string ST, .int .i64 0]) ∧ Sej c w w' s s2 ti ps i pp Q2) := fun ne W s2 pp hW => by
    refine (hsend ne s2 hW.q W hW.ss.sk.rep).mono ?_
    rintro e w' ⟨rfl, r, f⟩
    exact ⟨rfl, hW.step r f (fun k hk => Or.inl hk) hW.q⟩
  have HHd : Hid (g ≠ aim → ∀ W s2, Sej c w W s s2 ti ps i { p with k := g, x := p.x1 g } Q2 → Calls Tryz.prog 89 #[.pointer (some ⟨c.xb, 0, none⟩), .pointer (some ⟨c.pb, i * 7, none⟩), .int .i64 aim] W fun e w' => e = .returned (.bool true) ∧ ∃ s3, Sej c w w' s s3 ti ps i { p with k := g, x := aim } Q3) := fun ne W s2 hW => by
    have hl2 : i < (ps.set i { p with k := g, x := p.x1 g }).length := by rw [List.length_set]; exact hi
    by_cases hx : p.x1 g = 0
    · refine (holdSent_first c.B c.b c.xb c.pb c.RB s2 c.last c.ra c.rs c.rc c.ev c.wt c.mo ti (ps.set i { p with k := g, x := p.x1 g }) i { p with k := g, x := p.x1 g } aim (fun s3 => Q3 s3 ∧ ∀ k ∈ foot c.b s3, k ∈ foot c.b s2 ∨ W.heap.size ≤ k) W hW.ss.sk hl2 (List.getElem_set_self hl2) hx (fun W' hW' => ?_)).mono ?_
      · refine (hhold ne hx s2 hW.q W' (hW.ss.sk.rep.kept0 hW')).mono ?_
        rintro e' w' ⟨s3, rfl, q3, r3, f3, t3⟩
        have := hW'.size
        exact ⟨s3, rfl, r3, f3, q3, fun k hk => (t3 k hk).imp_right (fun h3 => by omega)⟩
      · rintro e' w' ⟨rfl, s3, ⟨q3, t3⟩, k3, f3⟩
        exact ⟨rfl, s3, hW.next (p2 := { p with k := g, x := aim }) k3 f3 t3 q3⟩
    · refine (holdSent_again c.B c.b c.xb c.pb c.RB s2 c.last c.ra c.rs c.rc c.ev c.wt c.mo ti (ps.set i { p with k := g, x := p.x1 g }) i { p with k := g, x := p.x1 g } aim W hW.ss.sk hl2 (List.getElem_set_self hl2) hx).mono ?_
      rintro e' w' ⟨rfl, s3, rfl, k3, f3⟩
      exact ⟨rfl, s3, hW.next (p2 := { p with k := g, x := aim }) k3 f3 (fun k hk => Or.inl hk) (hagain hx s3 hW.q)⟩
  have HPo : Hid (∀ W s3, Sej c w W s s3 ti ps i { p with k := g, x := aim } Q3 → Calls Tryz.prog 70 #[.pointer (some ⟨c.xb, 0, none⟩), .int .i64 i, .agg #[.int .u8 68, .int .i64 0, .int .i64 0, .string ST, .int .i64 0], .int .i64 c.wt] W fun e w' => e = .returned (.agg #[.int .i64 i, .string T]) ∧ Sej c w w' s s3 ti ps i (Pe.post { p with k := g, x := aim } 68 (ti + c.wt)) Q3) := fun W s3 hW => by
    have hl2 : i < (ps.set i { p with k := g, x := aim }).length := by rw [List.length_set]; exact hi
    refine (post_any c.B c.b c.xb c.pb c.RB s3 c.last c.ra c.rs c.rc c.ev c.wt c.mo ti (ps.set i { p with k := g, x := aim }) i { p with k := g, x := aim } 68 ST T c.wt W hW.ss.sk hl2 (List.getElem_set_self hl2) hnum hwt hti (fun W' => ?_)).mono ?_
    · rw [← hT]
      exact text_data 68 i (p.num + 1) ST 0 W' rfl hST
    · rintro e' w' ⟨rfl, k3, f3⟩
      exact ⟨rfl, hW.next (p2 := Pe.post { p with k := g, x := aim } 68 (ti + c.wt)) k3 (f3.mono (fun k hk => by simp at hk; simp [hk])) (fun k hk => Or.inl hk) hW.q⟩
  obtain ⟨n, hn'⟩ : ∃ n, ps.length = n := ⟨_, rfl⟩
  have c7 : w.cell? ⟨c.xb, 7, none⟩ = some (.slice (some ⟨c.pb, 0, none⟩) n n) := by
    have := h.sc.c7
    rw [hn'] at this
    exact this
  have hltz : (i : Int) < (n : Int) := by omega
  have i0 : (0 : Int) ≤ (i : Int) := by omega
  have HJ0 : Hid (Sej c w w s s ti ps i p (fun x => x = s)) := J0
  have HA : Hid (p.aim g nw = aim) := haim
  obtain ⟨px, hpx⟩ : ∃ px, p.x = px := ⟨_, rfl⟩
  have HPX : Hid (p.x = px) := hpx
  obtain ⟨paw, hpaw⟩ : ∃ paw, p.aw = paw := ⟨_, rfl⟩
  have HPA : Hid (p.aw = paw) := hpaw
  rw [hT]

  clear hlearn hno hforget hkeep hnw hsend hhold hagain hT haim hnum hti hwt hST hset h J0 hl hml hhb hi hp hn' hpx hpaw
  have hcs : (g = px ∧ aim = nw ∧ p.x1 g = 0) ∨ (g ≠ px ∧ px = 0 ∧ aim = nw ∧ p.x1 g = px) ∨ (g ≠ px ∧ px ≠ 0 ∧ aim = px ∧ p.x1 g = px) := by
    have h1 := HA.out
    unfold Pe.aim Pe.x1 at h1
    unfold Pe.x1
    rw [HPX.out] at h1 ⊢
    by_cases e1 : g = px
    · rw [if_pos e1] at h1 ⊢
      simp at h1
      exact Or.inl ⟨e1, h1.symm, rfl⟩
    · rw [if_neg e1] at h1 ⊢
      by_cases e2 : px = 0
      · rw [if_pos e2] at h1
        exact Or.inr (Or.inl ⟨e1, e2, h1.symm, rfl⟩)
      · rw [if_neg e2] at h1
        exact Or.inr (Or.inr ⟨e1, e2, h1.symm, rfl⟩)
  clear HA
  cases hb
  all_goals rcases hcs with ⟨hA, hB, hX⟩ | ⟨hA, h0, hB, hX⟩ | ⟨hA, h0, hB, hX⟩
  all_goals
    have HX : Hid (p.x1 g = _) := hX
    clear hX
  · subst hA
    subst hB
    by_cases hG : g = aim
    · subst hG
      go_enter Tryz.func61, Tryz.ntmps61
      go_wp2_with (first
        | (go_at_call 36; refine (HNw.out _ s3 _ HJ3.out).mono ?_; rintro e w4 ⟨rfl, j4⟩; have HJ4 : Hid (Sej c w w4 s s3 ti ps i { p with k := g, x := p.x1 g } Q2) := j4; have x40 := HJ4.out.cells.1; have y44 : w4.cell? ⟨c.pb, i * 7 + 4, none⟩ = some (.int .u8 paw) := (by rw [← HPA.out]; exact HJ4.out.cells.2.2.2.1); have z44 := HJ4.out.cells.2.2.2.2; clear j4)
        | (go_at_call 63; refine (HFg.out HPX.out.symm _ s2 HJ2.out).mono ?_; rintro e w3 ⟨rfl, s3, j3⟩; have HJ3 : Hid (Sej c w w3 s s3 ti ps i { p with k := g, x := p.x1 g } Q2) := j3; have y31 := HJ3.out.cx (px := 0) HX.out; clear j3)
        | (go_at_call 87; refine HHas.out.mono ?_; rintro e w1 ⟨rfl, r1, f1⟩; have HJ1 : Hid (Sej c w w1 s s ti ps i p (fun x => x = s)) := HJ0.out.step r1 f1 (fun k hk => Or.inl hk) rfl; have y1 := HJ1.out.cx HPX.out; obtain ⟨s2, HJ2⟩ : ∃ s2, Hid (Sej c w w1 s s2 ti ps i { p with k := g } Q1) := ⟨s, HNo.out (by first | rfl | trivial) _ HJ1.out⟩; clear r1 f1))
      go_ret
      refine ⟨_, rfl, ?_⟩
      unfold SnPost
      rw [if_pos rfl]
      exact ⟨rfl, s3, HJ4.out.q, HJ4.out.idle⟩
    · have HG : Hid (g ≠ aim) := hG
      go_enter Tryz.func61, Tryz.ntmps61
      go_wp2_with (first
        | (go_at_call 70; refine (HPo.out _ s6 HJ6.out).mono ?_; rintro e w7 ⟨rfl, j7⟩; have HJ7 : Hid (Sej c w w7 s s6 ti ps i (Pe.post { p with k := g, x := aim } 68 (ti + c.wt)) Q3) := j7; clear j7)
        | (go_at_call 89; refine (HHd.out HG.out _ s3 HJ5.out).mono ?_; rintro e w6 ⟨rfl, s6, j6⟩; have HJ6 : Hid (Sej c w w6 s s6 ti ps i { p with k := g, x := aim } Q3) := j6; have x64 := HJ6.out.cells.2.1; clear j6)
        | (go_at_call 88; refine (HSd.out HG.out _ s3 _ HJ4.out).mono ?_; rintro e w5 ⟨rfl, j5⟩; have HJ5 : Hid (Sej c w w5 s s3 ti ps i { p with k := g, x := p.x1 g } Q2) := j5; have x54 := HJ5.out.cells.2.1; clear j5)
        | (go_at_call 36; refine (HNw.out _ s3 _ HJ3.out).mono ?_; rintro e w4 ⟨rfl, j4⟩; have HJ4 : Hid (Sej c w w4 s s3 ti ps i { p with k := g, x := p.x1 g } Q2) := j4; have x40 := HJ4.out.cells.1; have y44 : w4.cell? ⟨c.pb, i * 7 + 4, none⟩ = some (.int .u8 paw) := (by rw [← HPA.out]; exact HJ4.out.cells.2.2.2.1); have z44 := HJ4.out.cells.2.2.2.2; clear j4)
        | (go_at_call 63; refine (HFg.out HPX.out.symm _ s2 HJ2.out).mono ?_; rintro e w3 ⟨rfl, s3, j3⟩; have HJ3 : Hid (Sej c w w3 s s3 ti ps i { p with k := g, x := p.x1 g } Q2) := j3; have y31 := HJ3.out.cx (px := 0) HX.out; clear j3)
        | (go_at_call 87; refine HHas.out.mono ?_; rintro e w1 ⟨rfl, r1, f1⟩; have HJ1 : Hid (Sej c w w1 s s ti ps i p (fun x => x = s)) := HJ0.out.step r1 f1 (fun k hk => Or.inl hk) rfl; have y1 := HJ1.out.cx HPX.out; obtain ⟨s2, HJ2⟩ : ∃ s2, Hid (Sej c w w1 s s2 ti ps i { p with k := g } Q1) := ⟨s, HNo.out (by first | rfl | trivial) _ HJ1.out⟩; clear r1 f1))
      go_ret
      refine ⟨_, rfl, ?_⟩
      unfold SnPost
      rw [if_neg HG.out]
      exact ⟨own_letter i T HJ7.out.ss.fr.size, s6, HJ7.out.q, HJ7.out.ss.same ((Fr.refl _ _).alloc _)⟩
  · subst h0
    subst hB
    have hA' : Hid (g ≠ 0) := hA
    have hA := hA'
    by_cases hG : g = aim
    · subst hG
      go_enter Tryz.func61, Tryz.ntmps61
      go_wp2_with (first
        | (go_at_call 36; refine (HNw.out _ s3 _ HJ3.out).mono ?_; rintro e w4 ⟨rfl, j4⟩; have HJ4 : Hid (Sej c w w4 s s3 ti ps i { p with k := g, x := p.x1 g } Q2) := j4; have x40 := HJ4.out.cells.1; have y44 : w4.cell? ⟨c.pb, i * 7 + 4, none⟩ = some (.int .u8 paw) := (by rw [← HPA.out]; exact HJ4.out.cells.2.2.2.1); have z44 := HJ4.out.cells.2.2.2.2; clear j4)
        | (go_at_call 87; refine HHas.out.mono ?_; rintro e w1 ⟨rfl, r1, f1⟩; have HJ1 : Hid (Sej c w w1 s s ti ps i p (fun x => x = s)) := HJ0.out.step r1 f1 (fun k hk => Or.inl hk) rfl; have y1 := HJ1.out.cx HPX.out; obtain ⟨s2, HJ2⟩ : ∃ s2, Hid (Sej c w w1 s s2 ti ps i { p with k := g } Q1) := ⟨s, HNo.out (by first | rfl | trivial) _ HJ1.out⟩; obtain ⟨s3, HJ3⟩ : ∃ s3, Hid (Sej c w w1 s s3 ti ps i { p with k := g, x := p.x1 g } Q2) := ⟨s2, HKp.out (fun e => hA.out (e.trans HPX.out)) _ _ HJ2.out⟩; clear r1 f1))
      go_ret
      refine ⟨_, rfl, ?_⟩
      unfold SnPost
      rw [if_pos rfl]
      exact ⟨rfl, s3, HJ4.out.q, HJ4.out.idle⟩
    · have HG : Hid (g ≠ aim) := hG
      go_enter Tryz.func61, Tryz.ntmps61
      go_wp2_with (first
        | (go_at_call 70; refine (HPo.out _ s6 HJ6.out).mono ?_; rintro e w7 ⟨rfl, j7⟩; have HJ7 : Hid (Sej c w w7 s s6 ti ps i (Pe.post { p with k := g, x := aim } 68 (ti + c.wt)) Q3) := j7; clear j7)
        | (go_at_call 89; refine (HHd.out HG.out _ s3 HJ5.out).mono ?_; rintro e w6 ⟨rfl, s6, j6⟩; have HJ6 : Hid (Sej c w w6 s s6 ti ps i { p with k := g, x := aim } Q3) := j6; have x64 := HJ6.out.cells.2.1; clear j6)
        | (go_at_call 88; refine (HSd.out HG.out _ s3 _ HJ4.out).mono ?_; rintro e w5 ⟨rfl, j5⟩; have HJ5 : Hid (Sej c w w5 s s3 ti ps i { p with k := g, x := p.x1 g } Q2) := j5; have x54 := HJ5.out.cells.2.1; clear j5)
        | (go_at_call 36; refine (HNw.out _ s3 _ HJ3.out).mono ?_; rintro e w4 ⟨rfl, j4⟩; have HJ4 : Hid (Sej c w w4 s s3 ti ps i { p with k := g, x := p.x1 g } Q2) := j4; have x40 := HJ4.out.cells.1; have y44 : w4.cell? ⟨c.pb, i * 7 + 4, none⟩ = some (.int .u8 paw) := (by rw [← HPA.out]; exact HJ4.out.cells.2.2.2.1); have z44 := HJ4.out.cells.2.2.2.2; clear j4)
        | (go_at_call 87; refine HHas.out.mono ?_; rintro e w1 ⟨rfl, r1, f1⟩; have HJ1 : Hid (Sej c w w1 s s ti ps i p (fun x => x = s)) := HJ0.out.step r1 f1 (fun k hk => Or.inl hk) rfl; have y1 := HJ1.out.cx HPX.out; obtain ⟨s2, HJ2⟩ : ∃ s2, Hid (Sej c w w1 s s2 ti ps i { p with k := g } Q1) := ⟨s, HNo.out (by first | rfl | trivial) _ HJ1.out⟩; obtain ⟨s3, HJ3⟩ : ∃ s3, Hid (Sej c w w1 s s3 ti ps i { p with k := g, x := p.x1 g } Q2) := ⟨s2, HKp.out (fun e => hA.out (e.trans HPX.out)) _ _ HJ2.out⟩; clear r1 f1))
      go_ret
      refine ⟨_, rfl, ?_⟩
      unfold SnPost
      rw [if_neg HG.out]
      exact ⟨own_letter i T HJ7.out.ss.fr.size, s6, HJ7.out.q, HJ7.out.ss.same ((Fr.refl _ _).alloc _)⟩
  · subst hB
    have hA' : Hid (g ≠ aim) := hA
    have hA := hA'
    have hG : g ≠ aim := hA.out
    have HG : Hid (g ≠ aim) := hG
    go_enter Tryz.func61, Tryz.ntmps61
    go_wp2_with (first
      | (go_at_call 70; refine (HPo.out _ s6 HJ6.out).mono ?_; rintro e w7 ⟨rfl, j7⟩; have HJ7 : Hid (Sej c w w7 s s6 ti ps i (Pe.post { p with k := g, x := aim } 68 (ti + c.wt)) Q3) := j7; clear j7)
      | (go_at_call 89; refine (HHd.out HG.out _ s3 HJ5.out).mono ?_; rintro e w6 ⟨rfl, s6, j6⟩; have HJ6 : Hid (Sej c w w6 s s6 ti ps i { p with k := g, x := aim } Q3) := j6; have x64 := HJ6.out.cells.2.1; clear j6)
      | (go_at_call 88; refine (HSd.out HG.out _ s3 _ HJ4.out).mono ?_; rintro e w5 ⟨rfl, j5⟩; have HJ5 : Hid (Sej c w w5 s s3 ti ps i { p with k := g, x := p.x1 g } Q2) := j5; have x54 := HJ5.out.cells.2.1; clear j5)
      | (go_at_call 87; refine HHas.out.mono ?_; rintro e w1 ⟨rfl, r1, f1⟩; have HJ1 : Hid (Sej c w w1 s s ti ps i p (fun x => x = s)) := HJ0.out.step r1 f1 (fun k hk => Or.inl hk) rfl; have y1 := HJ1.out.cx HPX.out; obtain ⟨s2, HJ2⟩ : ∃ s2, Hid (Sej c w w1 s s2 ti ps i { p with k := g } Q1) := ⟨s, HNo.out (by first | rfl | trivial) _ HJ1.out⟩; obtain ⟨s3, HJ3⟩ : ∃ s3, Hid (Sej c w w1 s s3 ti ps i { p with k := g, x := p.x1 g } Q2) := ⟨s2, HKp.out (fun e => hA.out (e.trans HPX.out)) _ _ HJ2.out⟩; have HJ4 := HJ3; have x40 := HJ4.out.cells.1; clear r1 f1))
    go_ret
    refine ⟨_, rfl, ?_⟩
    unfold SnPost
    rw [if_neg HG.out]
    exact ⟨own_letter i T HJ7.out.ss.fr.size, s6, HJ7.out.q, HJ7.out.ss.same ((Fr.refl _ _).alloc _)⟩
  · subst hA
    subst hB
    by_cases hG : g = aim
    · subst hG
      go_enter Tryz.func61, Tryz.ntmps61
      go_wp2_with (first
        | (go_at_call 36; refine (HNw.out _ s3 _ HJ3.out).mono ?_; rintro e w4 ⟨rfl, j4⟩; have HJ4 : Hid (Sej c w w4 s s3 ti ps i { p with k := g, x := p.x1 g } Q2) := j4; have x40 := HJ4.out.cells.1; have y44 : w4.cell? ⟨c.pb, i * 7 + 4, none⟩ = some (.int .u8 paw) := (by rw [← HPA.out]; exact HJ4.out.cells.2.2.2.1); have z44 := HJ4.out.cells.2.2.2.2; clear j4)
        | (go_at_call 63; refine (HFg.out HPX.out.symm _ s2 HJ2.out).mono ?_; rintro e w3 ⟨rfl, s3, j3⟩; have HJ3 : Hid (Sej c w w3 s s3 ti ps i { p with k := g, x := p.x1 g } Q2) := j3; have y31 := HJ3.out.cx (px := 0) HX.out; clear j3)
        | (go_at_call 62; refine (HLn.out (by first | rfl | trivial) _ HJ1.out).mono ?_; rintro e w2 ⟨rfl, s2, j2⟩; have HJ2 : Hid (Sej c w w2 s s2 ti ps i { p with k := g } Q1) := j2; have y21 := HJ2.out.cx (show ({ p with k := g } : Pe).x = _ from HPX.out); clear j2)
        | (go_at_call 87; refine HHas.out.mono ?_; rintro e w1 ⟨rfl, r1, f1⟩; have HJ1 : Hid (Sej c w w1 s s ti ps i p (fun x => x = s)) := HJ0.out.step r1 f1 (fun k hk => Or.inl hk) rfl; clear r1 f1))
      go_ret
      refine ⟨_, rfl, ?_⟩
      unfold SnPost
      rw [if_pos rfl]
      exact ⟨rfl, s3, HJ4.out.q, HJ4.out.idle⟩
    · have HG : Hid (g ≠ aim) := hG
      go_enter Tryz.func61, Tryz.ntmps61
      go_wp2_with (first
        | (go_at_call 70; refine (HPo.out _ s6 HJ6.out).mono ?_; rintro e w7 ⟨rfl, j7⟩; have HJ7 : Hid (Sej c w w7 s s6 ti ps i (Pe.post { p with k := g, x := aim } 68 (ti + c.wt)) Q3) := j7; clear j7)
        | (go_at_call 89; refine (HHd.out HG.out _ s3 HJ5.out).mono ?_; rintro e w6 ⟨rfl, s6, j6⟩; have HJ6 : Hid (Sej c w w6 s s6 ti ps i { p with k := g, x := aim } Q3) := j6; have x64 := HJ6.out.cells.2.1; clear j6)
        | (go_at_call 88; refine (HSd.out HG.out _ s3 _ HJ4.out).mono ?_; rintro e w5 ⟨rfl, j5⟩; have HJ5 : Hid (Sej c w w5 s s3 ti ps i { p with k := g, x := p.x1 g } Q2) := j5; have x54 := HJ5.out.cells.2.1; clear j5)
        | (go_at_call 36; refine (HNw.out _ s3 _ HJ3.out).mono ?_; rintro e w4 ⟨rfl, j4⟩; have HJ4 : Hid (Sej c w w4 s s3 ti ps i { p with k := g, x := p.x1 g } Q2) := j4; have x40 := HJ4.out.cells.1; have y44 : w4.cell? ⟨c.pb, i * 7 + 4, none⟩ = some (.int .u8 paw) := (by rw [← HPA.out]; exact HJ4.out.cells.2.2.2.1); have z44 := HJ4.out.cells.2.2.2.2; clear j4)
        | (go_at_call 63; refine (HFg.out HPX.out.symm _ s2 HJ2.out).mono ?_; rintro e w3 ⟨rfl, s3, j3⟩; have HJ3 : Hid (Sej c w w3 s s3 ti ps i { p with k := g, x := p.x1 g } Q2) := j3; have y31 := HJ3.out.cx (px := 0) HX.out; clear j3)
        | (go_at_call 62; refine (HLn.out (by first | rfl | trivial) _ HJ1.out).mono ?_; rintro e w2 ⟨rfl, s2, j2⟩; have HJ2 : Hid (Sej c w w2 s s2 ti ps i { p with k := g } Q1) := j2; have y21 := HJ2.out.cx (show ({ p with k := g } : Pe).x = _ from HPX.out); clear j2)
        | (go_at_call 87; refine HHas.out.mono ?_; rintro e w1 ⟨rfl, r1, f1⟩; have HJ1 : Hid (Sej c w w1 s s ti ps i p (fun x => x = s)) := HJ0.out.step r1 f1 (fun k hk => Or.inl hk) rfl; clear r1 f1))
      go_ret
      refine ⟨_, rfl, ?_⟩
      unfold SnPost
      rw [if_neg HG.out]
      exact ⟨own_letter i T HJ7.out.ss.fr.size, s6, HJ7.out.q, HJ7.out.ss.same ((Fr.refl _ _).alloc _)⟩
  · subst h0
    subst hB
    have hA' : Hid (g ≠ 0) := hA
    have hA := hA'
    by_cases hG : g = aim
    · subst hG
      go_enter Tryz.func61, Tryz.ntmps61
      go_wp2_with (first
        | (go_at_call 36; refine (HNw.out _ s3 _ HJ3.out).mono ?_; rintro e w4 ⟨rfl, j4⟩; have HJ4 : Hid (Sej c w w4 s s3 ti ps i { p with k := g, x := p.x1 g } Q2) := j4; have x40 := HJ4.out.cells.1; have y44 : w4.cell? ⟨c.pb, i * 7 + 4, none⟩ = some (.int .u8 paw) := (by rw [← HPA.out]; exact HJ4.out.cells.2.2.2.1); have z44 := HJ4.out.cells.2.2.2.2; clear j4)
        | (go_at_call 62; refine (HLn.out (by first | rfl | trivial) _ HJ1.out).mono ?_; rintro e w2 ⟨rfl, s2, j2⟩; have HJ2 : Hid (Sej c w w2 s s2 ti ps i { p with k := g } Q1) := j2; have y21 := HJ2.out.cx (show ({ p with k := g } : Pe).x = _ from HPX.out); obtain ⟨s3, HJ3⟩ : ∃ s3, Hid (Sej c w w2 s s3 ti ps i { p with k := g, x := p.x1 g } Q2) := ⟨s2, HKp.out (fun e => hA.out (e.trans HPX.out)) _ _ HJ2.out⟩; clear j2)
        | (go_at_call 87; refine HHas.out.mono ?_; rintro e w1 ⟨rfl, r1, f1⟩; have HJ1 : Hid (Sej c w w1 s s ti ps i p (fun x => x = s)) := HJ0.out.step r1 f1 (fun k hk => Or.inl hk) rfl; clear r1 f1))
      go_ret
      refine ⟨_, rfl, ?_⟩
      unfold SnPost
      rw [if_pos rfl]
      exact ⟨rfl, s3, HJ4.out.q, HJ4.out.idle⟩
    · have HG : Hid (g ≠ aim) := hG
      go_enter Tryz.func61, Tryz.ntmps61
      go_wp2_with (first
        | (go_at_call 70; refine (HPo.out _ s6 HJ6.out).mono ?_; rintro e w7 ⟨rfl, j7⟩; have HJ7 : Hid (Sej c w w7 s s6 ti ps i (Pe.post { p with k := g, x := aim } 68 (ti + c.wt)) Q3) := j7; clear j7)
        | (go_at_call 89; refine (HHd.out HG.out _ s3 HJ5.out).mono ?_; rintro e w6 ⟨rfl, s6, j6⟩; have HJ6 : Hid (Sej c w w6 s s6 ti ps i { p with k := g, x := aim } Q3) := j6; have x64 := HJ6.out.cells.2.1; clear j6)
        | (go_at_call 88; refine (HSd.out HG.out _ s3 _ HJ4.out).mono ?_; rintro e w5 ⟨rfl, j5⟩; have HJ5 : Hid (Sej c w w5 s s3 ti ps i { p with k := g, x := p.x1 g } Q2) := j5; have x54 := HJ5.out.cells.2.1; clear j5)
        | (go_at_call 36; refine (HNw.out _ s3 _ HJ3.out).mono ?_; rintro e w4 ⟨rfl, j4⟩; have HJ4 : Hid (Sej c w w4 s s3 ti ps i { p with k := g, x := p.x1 g } Q2) := j4; have x40 := HJ4.out.cells.1; have y44 : w4.cell? ⟨c.pb, i * 7 + 4, none⟩ = some (.int .u8 paw) := (by rw [← HPA.out]; exact HJ4.out.cells.2.2.2.1); have z44 := HJ4.out.cells.2.2.2.2; clear j4)
        | (go_at_call 62; refine (HLn.out (by first | rfl | trivial) _ HJ1.out).mono ?_; rintro e w2 ⟨rfl, s2, j2⟩; have HJ2 : Hid (Sej c w w2 s s2 ti ps i { p with k := g } Q1) := j2; have y21 := HJ2.out.cx (show ({ p with k := g } : Pe).x = _ from HPX.out); obtain ⟨s3, HJ3⟩ : ∃ s3, Hid (Sej c w w2 s s3 ti ps i { p with k := g, x := p.x1 g } Q2) := ⟨s2, HKp.out (fun e => hA.out (e.trans HPX.out)) _ _ HJ2.out⟩; clear j2)
        | (go_at_call 87; refine HHas.out.mono ?_; rintro e w1 ⟨rfl, r1, f1⟩; have HJ1 : Hid (Sej c w w1 s s ti ps i p (fun x => x = s)) := HJ0.out.step r1 f1 (fun k hk => Or.inl hk) rfl; clear r1 f1))
      go_ret
      refine ⟨_, rfl, ?_⟩
      unfold SnPost
      rw [if_neg HG.out]
      exact ⟨own_letter i T HJ7.out.ss.fr.size, s6, HJ7.out.q, HJ7.out.ss.same ((Fr.refl _ _).alloc _)⟩
  · subst hB
    have hA' : Hid (g ≠ aim) := hA
    have hA := hA'
    have hG : g ≠ aim := hA.out
    have HG : Hid (g ≠ aim) := hG
    go_enter Tryz.func61, Tryz.ntmps61
    go_wp2_with (first
      | (go_at_call 70; refine (HPo.out _ s6 HJ6.out).mono ?_; rintro e w7 ⟨rfl, j7⟩; have HJ7 : Hid (Sej c w w7 s s6 ti ps i (Pe.post { p with k := g, x := aim } 68 (ti + c.wt)) Q3) := j7; clear j7)
      | (go_at_call 89; refine (HHd.out HG.out _ s3 HJ5.out).mono ?_; rintro e w6 ⟨rfl, s6, j6⟩; have HJ6 : Hid (Sej c w w6 s s6 ti ps i { p with k := g, x := aim } Q3) := j6; have x64 := HJ6.out.cells.2.1; clear j6)
      | (go_at_call 88; refine (HSd.out HG.out _ s3 _ HJ4.out).mono ?_; rintro e w5 ⟨rfl, j5⟩; have HJ5 : Hid (Sej c w w5 s s3 ti ps i { p with k := g, x := p.x1 g } Q2) := j5; have x54 := HJ5.out.cells.2.1; clear j5)
      | (go_at_call 62; refine (HLn.out (by first | rfl | trivial) _ HJ1.out).mono ?_; rintro e w2 ⟨rfl, s2, j2⟩; have HJ2 : Hid (Sej c w w2 s s2 ti ps i { p with k := g } Q1) := j2; have y21 := HJ2.out.cx (show ({ p with k := g } : Pe).x = _ from HPX.out); obtain ⟨s3, HJ3⟩ : ∃ s3, Hid (Sej c w w2 s s3 ti ps i { p with k := g, x := p.x1 g } Q2) := ⟨s2, HKp.out (fun e => hA.out (e.trans HPX.out)) _ _ HJ2.out⟩; have HJ4 := HJ3; have x40 := HJ4.out.cells.1; clear j2)
      | (go_at_call 87; refine HHas.out.mono ?_; rintro e w1 ⟨rfl, r1, f1⟩; have HJ1 : Hid (Sej c w w1 s s ti ps i p (fun x => x = s)) := HJ0.out.step r1 f1 (fun k hk => Or.inl hk) rfl; clear r1 f1))
    go_ret
    refine ⟨_, rfl, ?_⟩
    unfold SnPost
    rw [if_neg HG.out]
    exact ⟨own_letter i T HJ7.out.ss.fr.size, s6, HJ7.out.q, HJ7.out.ss.same ((Fr.refl _ _).alloc _)⟩
end Go.Proofs.YthdhegmlknpllabGreatDoor

/-
  The walk of node's Source.Take (39).
-/
namespace Go.Proofs.YthdhegmlknpllabGreatDoor
open Go.RowKit Go.Maps Go.MuLone

/-- A text that reads as a letter. -/
def Reads (T : ByteArray) (kk : Int) (i : Nat) (num g : Int) : Prop := ∀ W, Calls Tryz.prog 35 #[.string T] W fun e w' => e = .returned (.tuple #[.agg #[.int .u8 kk, .int .i64 i, .int .i64 num, .string ⟨#[]⟩, .int .i64 g], .bool true]) ∧ Fr [] W w'
/-- The letter, and the peer's cells, behind hasPeer. -/
structure TkC (c : SCfg) (w W : World) (s : Sto) (ti : Int) (ps : List Pe) (i n lb : Nat) (p : Pe) (kk num g : Int) : Prop where
  ss : SS c w W s s ti ps
  c7 : W.cell? ⟨c.xb, 7, none⟩ = some (.slice (some ⟨c.pb, 0, none⟩) n n)
  p1 : W.cell? ⟨c.pb, i * 7 + 1, none⟩ = some (.int .i64 p.x)
  p3 : W.cell? ⟨c.pb, i * 7 + 3, none⟩ = some (.int .i64 p.num)
  p4 : W.cell? ⟨c.pb, i * 7 + 4, none⟩ = some (.int .u8 p.aw)
  z4 : W.frozen? ⟨c.pb, i * 7 + 4, none⟩ = false
  l0 : W.cell? ⟨lb, 0, none⟩ = some (.int .u8 kk)
  l1 : W.cell? ⟨lb, 1, none⟩ = some (.int .i64 i)
  l2 : W.cell? ⟨lb, 2, none⟩ = some (.int .i64 num)
  l4 : W.cell? ⟨lb, 4, none⟩ = some (.int .i64 g)
theorem TkC.of {c : SCfg} {w W1 W : World} {s : Sto} {ti : Int} {ps : List Pe} {i n : Nat} {p : Pe} {kk num g : Int} (h : SS c w W1 s s ti ps) (hi : ∃ h : i < ps.length, ps[i] = p) (hn : ps.length = n) (f : Fr [] (W1.alloc (.cells #[.int .u8 kk, .int .i64 i, .int .i64 num, .string ⟨#[]⟩, .int .i64 g] 100)) W) : TkC c w W s ti ps i n W1.heap.size p kk num g := by
  have h2 : SS c w W s s ti ps := (h.same ((Fr.refl _ _).alloc _)).same f
  have n2 : W.heap[W1.heap.size]? = some (.cells #[.int .u8 kk, .int .i64 i, .int .i64 num, .string ⟨#[]⟩, .int .i64 g] 100 (0, 0)) := (f.block _ (by simp) (by simp)).trans (heap_alloc_new W1 _)
  obtain ⟨hi, hp⟩ := hi
  have P := h2.sk.pc i hi
  rw [hp] at P
  have c7 := h2.sk.sc.c7
  rw [hn] at c7
  exact ⟨h2, c7, P.c1, P.c3, P.c4, froz_of h2.sk.pr _, by rw [cell_of n2]; rfl, by rw [cell_of n2]; rfl, by rw [cell_of n2]; rfl, by rw [cell_of n2]; rfl⟩

set_option maxRecDepth 100000 in
set_option maxHeartbeats 3200000 in
theorem take_old (c : SCfg) (s : Sto) (ti : Int) (ps : List Pe) (i : Nat) (p : Pe) (T : ByteArray) (kk num g : Int) (w : World) (h : SKc c w s ti ps) (hi : i < ps.length) (hp : ps[i] = p) (hr : Reads T kk i num g) (ho : p.aw = 0 ∨ num ≠ p.num) :
    Calls Tryz.prog 39 #[.pointer (some ⟨c.xb, 0, none⟩), .int .i64 i, .string T] w fun e w' => e = .returned (.slice none 0 0) ∧ SS c w w' s s ti ps := by
  have HR : Hid (Reads T kk i num g) := hr
  have HP : Hid (∀ W, SKc c W s ti ps → Calls Tryz.prog 45 #[.pointer (some ⟨c.xb, 0, none⟩), .int .i64 i] W fun e w' => e = .returned (.bool true) ∧ Fr [] W w') := fun W hW => hasPeer_yes hW.sc i hi
  have HI : Hid (∃ h : i < ps.length, ps[i] = p) := ⟨hi, hp⟩
  have HH : Hid (SS c w w s s ti ps) := SS.start h
  obtain ⟨n, hn'⟩ : ∃ n, ps.length = n := ⟨_, rfl⟩
  have HN : Hid (ps.length = n) := hn'
  have hltz : (i : Int) < (n : Int) := by omega
  have i0 : (0 : Int) ≤ (i : Int) := by omega
  obtain ⟨pn, hpn⟩ : ∃ pn, p.num = pn := ⟨_, rfl⟩
  obtain ⟨pa, hpa⟩ : ∃ pa, p.aw = pa := ⟨_, rfl⟩
  obtain ⟨px, hpx⟩ : ∃ px, p.x = px := ⟨_, rfl⟩
  have HV : Hid (p.num = pn ∧ p.aw = pa ∧ p.x = px) := ⟨hpn, hpa, hpx⟩
  rw [hpn, hpa] at ho
  clear h hr hi hp hn' hpn hpa hpx
  by_cases ha : pa = 0
  · subst ha
    clear ho
    go_enter Tryz.func39, Tryz.ntmps39
    go_wp2_with (first
      | (go_at_call 45; refine (HP.out _ (H1.out.same ((Fr.refl _ _).alloc _)).sk).mono ?_; rintro e w2 ⟨rfl, f2⟩; have t2 := TkC.of H1.out HI.out HN.out f2; obtain ⟨tss, c7, p1, p3, p4, z4, l0, l1, l2, l4⟩ := t2; rw [HV.out.1] at p3; rw [HV.out.2.1] at p4; rw [HV.out.2.2] at p1; have H2 : Hid (SS c w w2 s s ti ps) := tss; clear tss f2)
      | (go_at_call 35; refine (HR.out _).mono ?_; rintro e w1 ⟨rfl, f1⟩; have H1 : Hid (SS c w w1 s s ti ps) := HH.out.same f1; clear f1))
    go_quiet (fail)
    go_wp2
    go_ret
    exact ⟨rfl, H2.out.same ((Fr.refl _ _).drewN nq)⟩
  · have hb : num ≠ pn := ho.resolve_left ha
    have hae : (pa == 0) = false := by simpa using ha
    have hbe : (pn != num) = true := by simpa using Ne.symm hb
    clear ho
    go_enter Tryz.func39, Tryz.ntmps39
    go_wp2_with (first
      | (go_at_call 45; refine (HP.out _ (H1.out.same ((Fr.refl _ _).alloc _)).sk).mono ?_; rintro e w2 ⟨rfl, f2⟩; have t2 := TkC.of H1.out HI.out HN.out f2; obtain ⟨tss, c7, p1, p3, p4, z4, l0, l1, l2, l4⟩ := t2; rw [HV.out.1] at p3; rw [HV.out.2.1] at p4; rw [HV.out.2.2] at p1; have H2 : Hid (SS c w w2 s s ti ps) := tss; clear tss f2)
      | (go_at_call 35; refine (HR.out _).mono ?_; rintro e w1 ⟨rfl, f1⟩; have H1 : Hid (SS c w w1 s s ti ps) := HH.out.same f1; clear f1))
    go_quiet (fail)
    go_wp2
    go_ret
    exact ⟨rfl, H2.out.same ((Fr.refl _ _).drewN nq)⟩
set_option maxRecDepth 100000 in
set_option maxHeartbeats 3200000 in
theorem take_send (c : SCfg) (s : Sto) (ti : Int) (ps : List Pe) (i : Nat) (p : Pe) (T : ByteArray) (kk num g : Int) (QQ : Value → World → Prop) (w : World) (h : SKc c w s ti ps) (hi : i < ps.length) (hp : ps[i] = p) (hr : Reads T kk i num g) (ha : p.aw = 65) (hk : kk = 72) (hm : num = p.num) (hs : ∀ W, SS c w W s s ti ps → Calls Tryz.prog 61 #[.pointer (some ⟨c.xb, 0, none⟩), .int .i64 i, .int .i64 g] W fun e w' => ∃ v, e = .returned v ∧ QQ v w') :
    Calls Tryz.prog 39 #[.pointer (some ⟨c.xb, 0, none⟩), .int .i64 i, .string T] w fun e w' => ∃ v, e = .returned v ∧ QQ v w' := by
  have HR : Hid (Reads T kk i num g) := hr
  have HP : Hid (∀ W, SKc c W s ti ps → Calls Tryz.prog 45 #[.pointer (some ⟨c.xb, 0, none⟩), .int .i64 i] W fun e w' => e = .returned (.bool true) ∧ Fr [] W w') := fun W hW => hasPeer_yes hW.sc i hi
  have HI : Hid (∃ h : i < ps.length, ps[i] = p) := ⟨hi, hp⟩
  have HH : Hid (SS c w w s s ti ps) := SS.start h
  obtain ⟨n, hn'⟩ : ∃ n, ps.length = n := ⟨_, rfl⟩
  have HN : Hid (ps.length = n) := hn'
  have hltz : (i : Int) < (n : Int) := by omega
  have i0 : (0 : Int) ≤ (i : Int) := by omega
  obtain ⟨pn, hpn⟩ : ∃ pn, p.num = pn := ⟨_, rfl⟩
  obtain ⟨pa, hpa⟩ : ∃ pa, p.aw = pa := ⟨_, rfl⟩
  obtain ⟨px, hpx⟩ : ∃ px, p.x = px := ⟨_, rfl⟩
  have HV : Hid (p.num = pn ∧ p.aw = pa ∧ p.x = px) := ⟨hpn, hpa, hpx⟩
  have HS : Hid (∀ W, SS c w W s s ti ps → Calls Tryz.prog 61 #[.pointer (some ⟨c.xb, 0, none⟩), .int .i64 i, .int .i64 g] W fun e w' => ∃ v, e = .returned v ∧ QQ v w') := hs
  rw [hpa] at ha
  rw [hpn] at hm
  subst ha
  subst hk
  subst hm
  clear hs
  clear h hr hi hp hn' hpn hpa hpx
  go_enter Tryz.func39, Tryz.ntmps39
  go_wp2_with (first
    | (go_at_call 45; refine (HP.out _ (H1.out.same ((Fr.refl _ _).alloc _)).sk).mono ?_; rintro e w2 ⟨rfl, f2⟩; have t2 := TkC.of H1.out HI.out HN.out f2; obtain ⟨tss, c7, p1, p3, p4, z4, l0, l1, l2, l4⟩ := t2; rw [HV.out.1] at p3; rw [HV.out.2.1] at p4; rw [HV.out.2.2] at p1; have H2 : Hid (SS c w w2 s s ti ps) := tss; clear tss f2)
    | (go_at_call 35; refine (HR.out _).mono ?_; rintro e w1 ⟨rfl, f1⟩; have H1 : Hid (SS c w w1 s s ti ps) := HH.out.same f1; clear f1))
  go_quiet (fail)
  go_wp2_with (first
    | (go_at_call 61; refine (HS.out _ (by first | exact H2.out.same ((Fr.refl _ _).drewN _) | exact (H2.out.same ((Fr.refl _ _).drewN _)).same ((Fr.refl _ _).drewN _) | exact ((H2.out.same ((Fr.refl _ _).drewN _)).same ((Fr.refl _ _).drewN _)).same ((Fr.refl _ _).drewN _) | exact (((H2.out.same ((Fr.refl _ _).drewN _)).same ((Fr.refl _ _).drewN _)).same ((Fr.refl _ _).drewN _)).same ((Fr.refl _ _).drewN _))).mono ?_; rintro e w3 ⟨v, rfl, q3⟩; have H3 : Hid (QQ v w3) := q3; clear q3))
  go_ret
  exact ⟨v, rfl, H3.out⟩
set_option maxRecDepth 100000 in
set_option maxHeartbeats 3200000 in
theorem take_idle (c : SCfg) (s : Sto) (ti : Int) (ps : List Pe) (i : Nat) (p : Pe) (T : ByteArray) (kk num g : Int) (w : World) (h : SKc c w s ti ps) (hi : i < ps.length) (hp : ps[i] = p) (hr : Reads T kk i num g) (ha : p.aw = 68) (hk : kk = 72) (hm : num = p.num) :
    Calls Tryz.prog 39 #[.pointer (some ⟨c.xb, 0, none⟩), .int .i64 i, .string T] w fun e w' => e = .returned (.slice none 0 0) ∧ SS c w w' s s ti (ps.set i { p with aw := 0 }) := by
  have HR : Hid (Reads T kk i num g) := hr
  have HP : Hid (∀ W, SKc c W s ti ps → Calls Tryz.prog 45 #[.pointer (some ⟨c.xb, 0, none⟩), .int .i64 i] W fun e w' => e = .returned (.bool true) ∧ Fr [] W w') := fun W hW => hasPeer_yes hW.sc i hi
  have HI : Hid (∃ h : i < ps.length, ps[i] = p) := ⟨hi, hp⟩
  have HH : Hid (SS c w w s s ti ps) := SS.start h
  obtain ⟨n, hn'⟩ : ∃ n, ps.length = n := ⟨_, rfl⟩
  have HN : Hid (ps.length = n) := hn'
  have hltz : (i : Int) < (n : Int) := by omega
  have i0 : (0 : Int) ≤ (i : Int) := by omega
  obtain ⟨pn, hpn⟩ : ∃ pn, p.num = pn := ⟨_, rfl⟩
  obtain ⟨pa, hpa⟩ : ∃ pa, p.aw = pa := ⟨_, rfl⟩
  obtain ⟨px, hpx⟩ : ∃ px, p.x = px := ⟨_, rfl⟩
  have HV : Hid (p.num = pn ∧ p.aw = pa ∧ p.x = px) := ⟨hpn, hpa, hpx⟩
  rw [hpa] at ha
  rw [hpn] at hm
  subst ha
  subst hk
  subst hm
  clear h hr hi hp hn' hpn hpa hpx
  go_enter Tryz.func39, Tryz.ntmps39
  go_wp2_with (first
    | (go_at_call 45; refine (HP.out _ (H1.out.same ((Fr.refl _ _).alloc _)).sk).mono ?_; rintro e w2 ⟨rfl, f2⟩; have t2 := TkC.of H1.out HI.out HN.out f2; obtain ⟨tss, c7, p1, p3, p4, z4, l0, l1, l2, l4⟩ := t2; rw [HV.out.1] at p3; rw [HV.out.2.1] at p4; rw [HV.out.2.2] at p1; have H2 : Hid (SS c w w2 s s ti ps) := tss; clear tss f2)
    | (go_at_call 35; refine (HR.out _).mono ?_; rintro e w1 ⟨rfl, f1⟩; have H1 : Hid (SS c w w1 s s ti ps) := HH.out.same f1; clear f1))
  go_quiet (fail)
  go_wp2
  go_ret
  refine ⟨rfl, ?_⟩
  exact SS.setP (s := s) (by first | exact H2.out.same ((Fr.refl _ _).drewN _) | exact (H2.out.same ((Fr.refl _ _).drewN _)).same ((Fr.refl _ _).drewN _) | exact ((H2.out.same ((Fr.refl _ _).drewN _)).same ((Fr.refl _ _).drewN _)).same ((Fr.refl _ _).drewN _) | exact (((H2.out.same ((Fr.refl _ _).drewN _)).same ((Fr.refl _ _).drewN _)).same ((Fr.refl _ _).drewN _)).same ((Fr.refl _ _).drewN _)) i 4 (.int .u8 0) { p with aw := 0 } HI.out.1 (by omega) (by rw [HI.out.2]; rfl)
set_option maxRecDepth 100000 in
set_option maxHeartbeats 3200000 in
theorem take_got (c : SCfg) (s : Sto) (ti : Int) (ps : List Pe) (i : Nat) (p : Pe) (T : ByteArray) (kk num g : Int) (Q1 Q2 : Sto → Prop) (w : World) (h : SKc c w s ti ps) (hi : i < ps.length) (hp : ps[i] = p) (hr : Reads T kk i num g) (ha : p.aw = 68) (hk : kk = 71) (hm : num = p.num) (hx : g = p.x) (hl : ∀ W, SS c w W s s ti ps → Calls Tryz.prog 62 #[.pointer (some ⟨c.xb, 0, none⟩), .int .i64 i, .int .i64 g] W fun e w' => e = .returned (.tuple #[]) ∧ LnPost c W w' s ti (ps.set i { p with k := g }) Q1) (hf : ∀ s1, Q1 s1 → StC1 c.B c.b 94 g s1 Q2) :
    Calls Tryz.prog 39 #[.pointer (some ⟨c.xb, 0, none⟩), .int .i64 i, .string T] w fun e w' => e = .returned (.slice none 0 0) ∧ LnPost c w w' s ti (ps.set i { p with k := g, x := 0, aw := 0 }) Q2 := by
  have HR : Hid (Reads T kk i num g) := hr
  have HP : Hid (∀ W, SKc c W s ti ps → Calls Tryz.prog 45 #[.pointer (some ⟨c.xb, 0, none⟩), .int .i64 i] W fun e w' => e = .returned (.bool true) ∧ Fr [] W w') := fun W hW => hasPeer_yes hW.sc i hi
  have HI : Hid (∃ h : i < ps.length, ps[i] = p) := ⟨hi, hp⟩
  have HH : Hid (SS c w w s s ti ps) := SS.start h
  obtain ⟨n, hn'⟩ : ∃ n, ps.length = n := ⟨_, rfl⟩
  have HN : Hid (ps.length = n) := hn'
  have hltz : (i : Int) < (n : Int) := by omega
  have i0 : (0 : Int) ≤ (i : Int) := by omega
  obtain ⟨pn, hpn⟩ : ∃ pn, p.num = pn := ⟨_, rfl⟩
  obtain ⟨pa, hpa⟩ : ∃ pa, p.aw = pa := ⟨_, rfl⟩
  obtain ⟨px, hpx⟩ : ∃ px, p.x = px := ⟨_, rfl⟩
  have HV : Hid (p.num = pn ∧ p.aw = pa ∧ p.x = px) := ⟨hpn, hpa, hpx⟩
  have HL : Hid (∀ W, SS c w W s s ti ps → Calls Tryz.prog 62 #[.pointer (some ⟨c.xb, 0, none⟩), .int .i64 i, .int .i64 g] W fun e w' => e = .returned (.tuple #[]) ∧ ∃ s1, Sej c w w' s s1 ti ps i { p with k := g } Q1) := fun W hW => by
    refine (hl W hW).mono ?_
    rintro e w' ⟨rfl, s1, q1, ss1⟩
    exact ⟨rfl, s1, hW.trans ss1, q1, hi⟩
  have HFg : Hid (∀ W s1, Sej c w W s s1 ti ps i { p with k := g } Q1 → Calls Tryz.prog 63 #[.pointer (some ⟨c.xb, 0, none⟩), .pointer (some ⟨c.pb, i * 7, none⟩)] W fun e w' => e = .returned (.tuple #[]) ∧ ∃ s2, Sej c w w' s s2 ti ps i { p with k := g, x := 0 } Q2) := fun W s1 hW => by
    have hl2 : i < (ps.set i { p with k := g }).length := by rw [List.length_set]; exact hi
    refine (forget_any c.B c.b c.xb c.pb c.RB s1 c.last c.ra c.rs c.rc c.ev c.wt c.mo ti (ps.set i { p with k := g }) i { p with k := g } (fun s2 => Q2 s2 ∧ ∀ k ∈ foot c.b s2, k ∈ foot c.b s1 ∨ W.heap.size ≤ k) W hW.ss.sk hl2 (List.getElem_set_self hl2) (fun W' hW' => ?_)).mono ?_
    · have h2 := hf s1 hW.q W' (hW.ss.sk.rep.kept0 hW')
      have e3 : ({ p with k := g } : Pe).x = g := hx.symm
      rw [e3]
      refine h2.mono ?_
      rintro e' w' ⟨en, s2, rfl, q2, r2, f2, t2⟩
      have := hW'.size
      exact ⟨en, s2, rfl, r2, f2, q2, fun k hk => (t2 k hk).imp_right (fun h3 => by omega)⟩
    · rintro e' w' ⟨rfl, s2, ⟨q2, t2⟩, k2, f2⟩
      exact ⟨rfl, s2, hW.next (p2 := { p with k := g, x := 0 }) k2 f2 t2 q2⟩
  rw [hpa] at ha
  rw [hpn] at hm
  rw [hpx] at hx
  subst ha
  subst hk
  subst hm
  subst hx
  clear hl hf
  clear h hr hi hp hn' hpn hpa hpx
  go_enter Tryz.func39, Tryz.ntmps39
  go_wp2_with (first
    | (go_at_call 45; refine (HP.out _ (H1.out.same ((Fr.refl _ _).alloc _)).sk).mono ?_; rintro e w2 ⟨rfl, f2⟩; have t2 := TkC.of H1.out HI.out HN.out f2; obtain ⟨tss, c7, p1, p3, p4, z4, l0, l1, l2, l4⟩ := t2; rw [HV.out.1] at p3; rw [HV.out.2.1] at p4; rw [HV.out.2.2] at p1; have H2 : Hid (SS c w w2 s s ti ps) := tss; clear tss f2)
    | (go_at_call 35; refine (HR.out _).mono ?_; rintro e w1 ⟨rfl, f1⟩; have H1 : Hid (SS c w w1 s s ti ps) := HH.out.same f1; clear f1))
  go_quiet (fail)
  go_wp2
  go_quiet (fail)
  go_wp2_with (first
    | (go_at_call 63; refine (HFg.out _ s3 HJ3.out).mono ?_; rintro e w4 ⟨rfl, s4, j4⟩; have HJ4 : Hid (Sej c w w4 s s4 ti ps i { p with k := g, x := 0 } Q2) := j4; have y44 : w4.cell? ⟨c.pb, i * 7 + 4, none⟩ = some (.int .u8 68) := (by rw [← HV.out.2.1]; exact HJ4.out.cells.2.2.2.1); have z44 := HJ4.out.cells.2.2.2.2; clear j4)
    | (go_at_call 62; refine (HL.out _ (by first | exact H2.out.same ((Fr.refl _ _).drewN _) | exact (H2.out.same ((Fr.refl _ _).drewN _)).same ((Fr.refl _ _).drewN _) | exact ((H2.out.same ((Fr.refl _ _).drewN _)).same ((Fr.refl _ _).drewN _)).same ((Fr.refl _ _).drewN _) | exact (((H2.out.same ((Fr.refl _ _).drewN _)).same ((Fr.refl _ _).drewN _)).same ((Fr.refl _ _).drewN _)).same ((Fr.refl _ _).drewN _))).mono ?_; rintro e w3 ⟨rfl, s3, j3⟩; have HJ3 : Hid (Sej c w w3 s s3 ti ps i { p with k := g } Q1) := j3; have x30 := HJ3.out.cells.1; have l40 : w3.cell? ⟨c.xb, 0, none⟩ = some (.pointer (some ⟨c.b, 0, none⟩)) := HJ3.out.cells.1; clear j3))
  go_ret
  exact ⟨rfl, s4, HJ4.out.q, HJ4.out.idle⟩
set_option maxRecDepth 100000 in
set_option maxHeartbeats 3200000 in
theorem take_nil (c : SCfg) (s : Sto) (ti : Int) (ps : List Pe) (i : Nat) (p : Pe) (T : ByteArray) (kk num g : Int) (w : World) (h : SKc c w s ti ps) (hi : i < ps.length) (hp : ps[i] = p) (hr : Reads T kk i num g) (ha : (p.aw = 65 ∧ kk = 71) ∨ (p.aw = 68 ∧ kk = 71 ∧ g ≠ p.x)) (hm : num = p.num) :
    Calls Tryz.prog 39 #[.pointer (some ⟨c.xb, 0, none⟩), .int .i64 i, .string T] w fun e w' => e = .returned (.slice none 0 0) ∧ SS c w w' s s ti ps := by
  have HR : Hid (Reads T kk i num g) := hr
  have HP : Hid (∀ W, SKc c W s ti ps → Calls Tryz.prog 45 #[.pointer (some ⟨c.xb, 0, none⟩), .int .i64 i] W fun e w' => e = .returned (.bool true) ∧ Fr [] W w') := fun W hW => hasPeer_yes hW.sc i hi
  have HI : Hid (∃ h : i < ps.length, ps[i] = p) := ⟨hi, hp⟩
  have HH : Hid (SS c w w s s ti ps) := SS.start h
  obtain ⟨n, hn'⟩ : ∃ n, ps.length = n := ⟨_, rfl⟩
  have HN : Hid (ps.length = n) := hn'
  have hltz : (i : Int) < (n : Int) := by omega
  have i0 : (0 : Int) ≤ (i : Int) := by omega
  obtain ⟨pn, hpn⟩ : ∃ pn, p.num = pn := ⟨_, rfl⟩
  obtain ⟨pa, hpa⟩ : ∃ pa, p.aw = pa := ⟨_, rfl⟩
  obtain ⟨px, hpx⟩ : ∃ px, p.x = px := ⟨_, rfl⟩
  have HV : Hid (p.num = pn ∧ p.aw = pa ∧ p.x = px) := ⟨hpn, hpa, hpx⟩
  rw [hpa, hpx] at ha
  rw [hpn] at hm
  subst hm
  clear h hr hi hp hn' hpn hpa hpx
  rcases ha with ⟨ha, hk⟩ | ⟨ha, hk, hx⟩
  · subst ha
    subst hk
    go_enter Tryz.func39, Tryz.ntmps39
    go_wp2_with (first
      | (go_at_call 45; refine (HP.out _ (H1.out.same ((Fr.refl _ _).alloc _)).sk).mono ?_; rintro e w2 ⟨rfl, f2⟩; have t2 := TkC.of H1.out HI.out HN.out f2; obtain ⟨tss, c7, p1, p3, p4, z4, l0, l1, l2, l4⟩ := t2; rw [HV.out.1] at p3; rw [HV.out.2.1] at p4; rw [HV.out.2.2] at p1; have H2 : Hid (SS c w w2 s s ti ps) := tss; clear tss f2)
      | (go_at_call 35; refine (HR.out _).mono ?_; rintro e w1 ⟨rfl, f1⟩; have H1 : Hid (SS c w w1 s s ti ps) := HH.out.same f1; clear f1))
    go_quiet (fail)
    go_wp2
    go_quiet (fail)
    go_wp2
    go_ret
    exact ⟨rfl, (by first | exact H2.out.same ((Fr.refl _ _).drewN _) | exact (H2.out.same ((Fr.refl _ _).drewN _)).same ((Fr.refl _ _).drewN _) | exact ((H2.out.same ((Fr.refl _ _).drewN _)).same ((Fr.refl _ _).drewN _)).same ((Fr.refl _ _).drewN _) | exact (((H2.out.same ((Fr.refl _ _).drewN _)).same ((Fr.refl _ _).drewN _)).same ((Fr.refl _ _).drewN _)).same ((Fr.refl _ _).drewN _))⟩
  · subst ha
    subst hk
    have hxe : (g == px) = false := by simpa using hx
    go_enter Tryz.func39, Tryz.ntmps39
    go_wp2_with (first
      | (go_at_call 45; refine (HP.out _ (H1.out.same ((Fr.refl _ _).alloc _)).sk).mono ?_; rintro e w2 ⟨rfl, f2⟩; have t2 := TkC.of H1.out HI.out HN.out f2; obtain ⟨tss, c7, p1, p3, p4, z4, l0, l1, l2, l4⟩ := t2; rw [HV.out.1] at p3; rw [HV.out.2.1] at p4; rw [HV.out.2.2] at p1; have H2 : Hid (SS c w w2 s s ti ps) := tss; clear tss f2)
      | (go_at_call 35; refine (HR.out _).mono ?_; rintro e w1 ⟨rfl, f1⟩; have H1 : Hid (SS c w w1 s s ti ps) := HH.out.same f1; clear f1))
    go_quiet (fail)
    go_wp2
    go_quiet (fail)
    go_wp2
    go_ret
    exact ⟨rfl, (by first | exact H2.out.same ((Fr.refl _ _).drewN _) | exact (H2.out.same ((Fr.refl _ _).drewN _)).same ((Fr.refl _ _).drewN _) | exact ((H2.out.same ((Fr.refl _ _).drewN _)).same ((Fr.refl _ _).drewN _)).same ((Fr.refl _ _).drewN _) | exact (((H2.out.same ((Fr.refl _ _).drewN _)).same ((Fr.refl _ _).drewN _)).same ((Fr.refl _ _).drewN _)).same ((Fr.refl _ _).drewN _))⟩
end Go.Proofs.YthdhegmlknpllabGreatDoor

/-
  What the source makes of a letter that comes to it, where the net is as it must be.
-/
namespace Go.Proofs.YthdhegmlknpllabGreatDoor
open Go.RowKit Go.Maps Go.MuLone

set_option maxHeartbeats 400000 in
theorem came_zero (B b : Nat) (q : Int) (s : Sto) (w : World) (_h : Rep B w b q s) :
    Calls Tryz.prog 119 #[.pointer (some ⟨b, 0, none⟩), .int .i64 0] w fun e w' => e = .returned (.tuple #[.int .i64 0, .bool true]) ∧ Fr [] w w' := by
  go_enter Tryz.func119, Tryz.ntmps119
  go_wp2
  exact bodyPost_ret (results_tmp2 rfl _ _ _) rfl ⟨rfl, Fr.refl _ _⟩
theorem flw_congr {s s2 : Sto} {g c : Int} {k : Nat} (h : ∀ i, s2.th g i = s.th g i) : flw s2 g c k = flw s g c k := by
  unfold flw
  simp only [h]

/-- A letter's text. -/
def Lt.txt (i n : Nat) : Lt → ByteArray
  | .inl num => ofL (lhead 65 i num)
  | .inr (.inl (num, f, t, m, l)) => ofL (lhead 68 i num ++ (streamT f t m n l).data.toList)
  | .inr (.inr (.inl (num, g))) => ofL (lhead 72 i num ++ (n4 g).list')
  | .inr (.inr (.inr (num, g))) => ofL (lhead 71 i num ++ (n4 g).list')

/-- The place of a beginning. -/
def plc (f : Int) : Int := if f = 0 then 0 else f - 1000000

/-- Send, from what is marked (or nothing) to a snapshot that is there. -/
theorem st_send (B b : Nat) {S S2 : Sto} {n : Nat} {im : List Img} {ps : List Pe} (s : SrcOk S2 n im ps) (hn : 1 ≤ n ∧ n ≤ 4) (hm : S2.ms.length ≤ 12) (hth : S2.th = S.th) {g aim : Int} (hg : g = 0 ∨ (Gv im.length g ∧ ∃ m ∈ S2.ms, m.1 = g)) (ha : ∃ y ∈ S2.ss, y.guid = aim) (hlt : g < aim) (hN : im.length ≤ 900000) (W : World) (hW : Rep B W b 0 S2) :
    Calls Tryz.prog 88 #[.pointer (some ⟨b, 0, none⟩), .int .i64 g, .int .i64 aim] W fun e w' => e = .returned (.tuple #[.string (streamT g aim (tI im aim) n (flw S aim (plc g) n)), .int .i64 0]) ∧ Rep B w' b 0 S2 ∧ Fr (foot b S2) W w' := by
  obtain ⟨j, hjl, hj, hjp⟩ := fi_some (p := fun y : Sn => y.guid == aim) S2.ss 0 (by obtain ⟨m, hm, e⟩ := ha; exact ⟨m, hm, by simp [e]⟩)
  rw [Nat.zero_add] at hj
  have hxg : S2.ss[j].guid = aim := by simpa using hjp
  obtain ⟨g1, g2, g3⟩ := s.sn _ (List.getElem_mem hjl)
  rw [hxg] at g1 g2 g3
  have h1 := g1.1
  have h2 := g1.2
  have := send_ok B b S2 g aim (plc g) j S2.ss[j] W hW s.len (by rw [s.vol]; omega) ⟨by omega, by omega⟩ hj (List.getElem?_eq_getElem hjl) (fun W' hW' => ?_) ?_
  · rw [s.vol, g3, flw_congr (s := S) (fun i => by rw [hth])] at this
    exact this
  · rcases hg with e | ⟨e1, m, hm1, e2⟩
    · rw [e]
      exact came_zero B b 1 S2 W' hW'
    · have hg0 : g ≠ 0 := by have := e1.1; omega
      have hge : (g == 0) = false := by simpa using hg0
      unfold plc
      rw [if_neg hg0]
      by_cases hin : ∃ x ∈ S2.ss, x.guid = g
      · obtain ⟨k, hkl, hk, hkp⟩ := fi_some (p := fun y : Sn => y.guid == g) S2.ss 0 (by obtain ⟨m, hm, e⟩ := hin; exact ⟨m, hm, by simp [e]⟩)
        rw [Nat.zero_add] at hk
        have hkg : S2.ss[k].guid = g := by simpa using hkp
        have := came_snap B b 1 S2 g k S2.ss[k] W' hW' s.len hge hk (List.getElem?_eq_getElem hkl)
        rw [(s.sn _ (List.getElem_mem hkl)).2.1, hkg] at this
        exact this
      · obtain ⟨k, hkl, hk, hkp⟩ := fi_some (p := fun y : Int × Int => y.1 == g) S2.ms 0 ⟨m, hm1, by simp [e2]⟩
        rw [Nat.zero_add] at hk
        have hkg : S2.ms[k].1 = g := by simpa using hkp
        have := came_mark B b 1 S2 g k S2.ms[k] W' hW' s.len hm hge (fi_none _ _ (fun x hx => by
          simp only [beq_eq_false_iff_ne, ne_eq]
          exact fun e => hin ⟨x, hx, e⟩)) hk (List.getElem?_eq_getElem hkl)
        rw [(s.ms _ (List.getElem_mem hkl)).2.1, hkg] at this
        exact this
  · rw [g2]
    unfold plc
    split <;> omega

section
variable {n : Nat} {S : Sto} {ps : List Pe} {im : List Img} {Rs : List Sto} {way : List (Nat × Lt)} {T : Int} {q : Nat}

theorem cX_set {i : Nat} {p p' : Pe} (hp : ps[i]? = some p) (g : Int) : cX (ps.set i p') g = cX ps g - (if p.x = g then 1 else 0) + (if p'.x = g then 1 else 0) := by
  have hi : i < ps.length := (List.getElem?_eq_some_iff.1 hp).1
  have hpi : ps[i] = p := (List.getElem?_eq_some_iff.1 hp).2
  unfold cX
  rw [List.map_set, List.count_set (by simpa using hi), List.getElem_map, hpi]
  have hle : p.x = g → 0 < (ps.map Pe.x).count g := fun e => List.count_pos_iff.2 (List.mem_map.2 ⟨p, List.mem_of_getElem? hp, e⟩)
  by_cases h1 : p.x = g
  · have := hle h1
    by_cases h2 : p'.x = g
    · simp only [h1, h2, beq_self_eq_true, if_true]
      omega
    · have h2' : (p'.x == g) = false := by simpa using h2
      simp only [h1, h2', h2, beq_self_eq_true, if_true, if_false]
      simp
      omega
  · have h1' : (p.x == g) = false := by simpa using h1
    by_cases h2 : p'.x = g
    · simp only [h1, h1', h2, beq_self_eq_true, if_true, if_false]
      simp
    · have h2' : (p'.x == g) = false := by simpa using h2
      simp only [h1, h1', h2', h2, if_false]
      simp

/-- A snapshot is held for a peer. -/
theorem turn_hold (s : SrcOk S n im ps) {S' : Sto} {i : Nat} {p p' : Pe} {aim : Int} (hp : ps[i]? = some p) (hx : p.x = 0) (hx' : p'.x = aim) (h : HoU S S' aim 1) : Turn S S' (ps.set i p') := by
  refine ⟨h.hm.id, h.hm.vol, h.ss, h.hm.th, h.hm.cm, h.hm.tk, h.hm.cn, by have := h.hm.lg; omega, fun x hxm => ?_⟩
  obtain ⟨y, hy, e1, e2⟩ := h.ho x hxm
  rw [e2, s.ho y hy, cX_set hp, hx, hx', ← e1]
  have := (s.sn y hy).1.1
  rw [if_neg (show ¬ (0 : Int) = y.guid by omega)]
  by_cases h1 : y.guid = aim
  · rw [if_pos h1, if_pos h1.symm]
    omega
  · rw [if_neg h1, if_neg (Ne.symm h1)]
    omega
theorem turn_same (s : SrcOk S n im ps) {i : Nat} {p p' : Pe} (hp : ps[i]? = some p) (hx : p'.x = p.x) : Turn S S (ps.set i p') := by
  refine ⟨rfl, rfl, rfl, rfl, rfl, rfl, rfl, by omega, fun x hxm => ?_⟩
  rw [s.ho x hxm, cX_set hp, hx]
  omega

theorem SrcOk.mks (s : SrcOk S n im ps) : MkS S.ms := ⟨s.mkk, fun m hm => (s.ms m hm).2.1⟩
theorem MkS.len {l : List (Int × Int)} (h : MkS l) (l' : List Int) (hs : ∀ m ∈ l, m.1 ∈ l') : l.length ≤ l'.length := by
  have := nodup_le (l.map Prod.fst) l' (by
    rw [List.Nodup, List.pairwise_map]
    refine List.Pairwise.imp_of_mem ?_ h.1
    intro a b ha hb hlt e
    rw [h.2 a ha, h.2 b hb] at hlt
    omega) (fun g hg => by
    obtain ⟨m, hm, rfl⟩ := List.mem_map.1 hg
    exact hs m hm)
  rw [List.length_map] at this
  exact this

/-- What learn makes of the store. -/
structure LQ (S s1 : Sto) (ps' : List Pe) (g : Int) : Prop where
  id : s1.id = S.id
  vol : s1.vol = S.vol
  ss : s1.ss = S.ss
  th : s1.th = S.th
  cm : s1.came = S.came
  tk : s1.taken = S.taken
  cn : s1.cnt = S.cnt
  lg : s1.log.length ≤ S.log.length + 20
  L : Lrn S.ms s1.ms ps' g
theorem LQ.of {s1 s2 : Sto} {ps' : List Pe} {g : Int} (a : Hm S s1) (b : Hm s1 s2) (e1 : s1.ss = S.ss) (e2 : s2.ss = s1.ss) (L : Lrn S.ms s2.ms ps' g) : LQ S s2 ps' g :=
  ⟨b.id.trans a.id, b.vol.trans a.vol, e2.trans e1, b.th.trans a.th, b.cm.trans a.cm, b.tk.trans a.tk, b.cn.trans a.cn, by have := a.lg; have := b.lg; omega, L⟩

theorem st_learn (c : SCfg) (I : NInv n S ps im Rs way T q) {i : Nat} {p : Pe} {R : Sto} (hp : ps[i]? = some p) (hR : Rs[i]? = some R) (hx : p.x ≠ 0) (hq : q ≤ 900000) (ti : Int) (W : World) (h : SKc c W S ti ps) :
    Calls Tryz.prog 62 #[.pointer (some ⟨c.xb, 0, none⟩), .int .i64 i, .int .i64 p.x] W fun e w' => e = .returned (.tuple #[]) ∧ LnPost c W w' S ti (ps.set i { p with k := p.x }) (fun s1 => LQ S s1 (ps.set i { p with k := p.x }) p.x) := by
  have s := I.src
  have o := I.pe i p R hp hR
  have hi : i < ps.length := (List.getElem?_eq_some_iff.1 hp).1
  have hpi : ps[i] = p := (List.getElem?_eq_some_iff.1 hp).2
  obtain ⟨⟨y, hy, ey⟩, hkx⟩ : (∃ y ∈ S.ss, y.guid = p.x) ∧ p.k < p.x := o.x.resolve_left hx
  have hgx : Gv im.length p.x := by rw [← ey]; exact (s.sn y hy).1
  have hnq := I.nq
  have h1 := hgx.1
  have h2 := hgx.2
  have hlg := I.lg
  have hml := I.marks
  obtain ⟨g, hg⟩ : ∃ g, p.x = g := ⟨_, rfl⟩
  rw [hg] at h1 h2 ey hkx ⊢
  obtain ⟨ps', hps'⟩ : ∃ ps', ps.set i { p with k := g } = ps' := ⟨_, rfl⟩
  have hme : g ∈ ps'.map Pe.k := by
    rw [← hps']
    exact List.mem_map.2 ⟨{ p with k := g }, List.mem_of_getElem? (List.getElem?_set_self hi), rfl⟩
  have hel : ∀ z, z ∈ ps.map Pe.k → z = p.k ∨ z ∈ ps'.map Pe.k := fun z hz => by
    obtain ⟨p2, hp2, e⟩ := List.mem_map.1 hz
    obtain ⟨j, hj, e2⟩ := List.getElem_of_mem hp2
    by_cases hij : i = j
    · subst hij
      rw [hpi] at e2
      exact Or.inl (by rw [← e, e2])
    · refine Or.inr (List.mem_map.2 ⟨p2, ?_, e⟩)
      rw [← hps']
      exact List.mem_of_getElem? (i := j) (by rw [List.getElem?_set_ne hij, List.getElem?_eq_getElem hj, e2])
  have hany : ∀ z, ((ps'.any fun x => x.k == z) = true ↔ z ∈ ps'.map Pe.k) := fun z => by
    rw [List.any_eq_true, List.mem_map]
    constructor
    · rintro ⟨x, hx, e⟩
      exact ⟨x, hx, by simpa using e⟩
    · rintro ⟨x, hx, e⟩
      exact ⟨x, hx, by simpa using e⟩
  have hmem1 : ∀ {l : List (Int × Int)}, (∀ m, m ∈ l ↔ m ∈ S.ms ∨ m = (g, g - 1000000)) → ∀ m ∈ l, m.1 = p.k ∨ m.1 ∈ ps'.map Pe.k := fun {l} hl m hm => by
    rcases (hl m).1 hm with e | e
    · exact hel _ (s.ms m e).2.2
    · rw [e]
      exact Or.inr hme
  have := learn_any c S ti ps i p g (fun s1 => MsU S s1 (fun l => MkS l ∧ ∀ m, m ∈ l ↔ m ∈ S.ms ∨ m = (g, g - 1000000))) (fun s1 => LQ S s1 (ps.set i { p with k := g }) g) W h hi hpi I.pl
    (st_mark c.B c.b S g s.len (by omega) s.mks ⟨y, hy, ey⟩ (fun x hx e => by rw [(s.sn x hx).2.1, e]) (fun m hm => by
      have a := (s.ms m hm).1
      have b := (s.ms m hm).2.1
      have a1 := a.1
      have a2 := a.2
      omega) ⟨by omega, by omega⟩ (by omega))
    (fun s1 u hn => by
      rw [hps'] at hn ⊢
      refine fun W' hW' => (st_unmark c.B c.b s1 p.k (by
        have := u.ms.1.len (g :: S.ms.map Prod.fst) (fun m hm => by
          rcases (u.ms.2 m).1 hm with e | e
          · exact List.mem_cons_of_mem _ (List.mem_map.2 ⟨m, e, rfl⟩)
          · rw [e]; exact List.mem_cons_self)
        rw [List.length_cons, List.length_map] at this
        omega) u.ms.1 (by have := u.hm.lg; omega) W' hW').mono ?_
      rintro e w' ⟨en, s2, rfl, v, r2, f2, t2⟩
      have hnk : p.k ∉ ps'.map Pe.k := fun hk => by
        rw [(hany p.k).2 hk] at hn
        cases hn
      refine ⟨en, s2, rfl, LQ.of u.hm v.hm u.ss v.ss ⟨v.ms.1.1, fun m hm => (u.ms.2 m).1 ((v.ms.2 m).1 hm).1, ⟨(g, g - 1000000), (v.ms.2 _).2 ⟨(u.ms.2 _).2 (Or.inr rfl), by show g ≠ p.k; omega⟩, rfl⟩, fun m hm hk => (v.ms.2 m).2 ⟨(u.ms.2 m).2 (Or.inl hm), fun e => hnk (by rw [← e]; exact hk)⟩, fun m hm => ?_⟩, r2, f2, t2⟩
      have h3 := (v.ms.2 m).1 hm
      exact (hmem1 u.ms.2 m h3.1).resolve_left h3.2)
    (fun s1 u hn => by
      rw [hps'] at hn ⊢
      have hnk := (hany p.k).1 hn
      exact LQ.of u.hm ⟨rfl, rfl, rfl, rfl, rfl, rfl, by omega⟩ u.ss rfl ⟨u.ms.1.1, fun m hm => (u.ms.2 m).1 hm, ⟨(g, g - 1000000), (u.ms.2 _).2 (Or.inr rfl), rfl⟩, fun m hm _ => (u.ms.2 m).2 (Or.inl hm), fun m hm => by
        rcases hmem1 u.ms.2 m hm with e | e
        · rw [e]; exact hnk
        · exact e⟩)
  rw [hg] at this
  exact this

/-- What learn and Release make of it, where the replica has what was sent. -/
theorem learnt_turn (I : NInv n S ps im Rs way T q) {i : Nat} {p : Pe} (hp : ps[i]? = some p) {s1 s2 : Sto} (u : LQ S s1 (ps.set i { p with k := p.x }) p.x) (v : HoU s1 s2 p.x (-1)) :
    Turn S s2 (ps.set i { p with k := p.x, x := 0, aw := 0 }) ∧ Lrn S.ms s2.ms (ps.set i { p with k := p.x, x := 0, aw := 0 }) p.x := by
  have s := I.src
  have e1 : (ps.set i { p with k := p.x, x := 0, aw := 0 }).map Pe.k = (ps.set i { p with k := p.x }).map Pe.k := by rw [List.map_set, List.map_set]
  refine ⟨⟨v.hm.id.trans u.id, v.hm.vol.trans u.vol, by rw [v.ss, u.ss], v.hm.th.trans u.th, v.hm.cm.trans u.cm, v.hm.tk.trans u.tk, v.hm.cn.trans u.cn, by have := v.hm.lg; have := u.lg; omega, fun x hxm => ?_⟩, ?_⟩
  · obtain ⟨y, hy, e2, e3⟩ := v.ho x hxm
    rw [u.ss] at hy
    rw [e3, s.ho y hy, cX_set hp, ← e2]
    have := (s.sn y hy).1.1
    rw [if_neg (show ¬ (0 : Int) = y.guid by omega)]
    by_cases h1 : y.guid = p.x
    · rw [if_pos h1, if_pos h1.symm]
      omega
    · rw [if_neg h1, if_neg (Ne.symm h1)]
      omega
  · have L := u.L
    rw [v.ms]
    exact ⟨L.srt, L.sub, L.new, fun m hm hk => L.keep m hm (by rw [← e1]; exact hk), fun m hm => by rw [e1]; exact L.gone m hm⟩
theorem st_rel (B b : Nat) (I : NInv n S ps im Rs way T q) {i : Nat} {p : Pe} {R : Sto} (hp : ps[i]? = some p) (hR : Rs[i]? = some R) (hx : p.x ≠ 0) (hq : q ≤ 900000) {s1 : Sto} {ps' : List Pe} (u : LQ S s1 ps' p.x) : StC1 B b 94 p.x s1 (fun s2 => HoU s1 s2 p.x (-1)) := by
  have s := I.src
  have o := I.pe i p R hp hR
  obtain ⟨⟨y, hy, ey⟩, hkx⟩ : (∃ y ∈ S.ss, y.guid = p.x) ∧ p.k < p.x := o.x.resolve_left hx
  have hlg := I.lg
  refine st_release B b s1 p.x (by rw [u.ss]; exact s.len) (by rw [u.ss]; exact s.nd) ⟨y, by rw [u.ss]; exact hy, ey⟩ (fun x hxm e => ?_) (by have := u.lg; omega)
  rw [u.ss] at hxm
  have h1 := I.held hxm
  have h2 : 0 < x.holds := by
    rw [s.ho x hxm, e]
    exact cX_pos (List.mem_of_getElem? hp) rfl
  omega
end

/-- What of a source's numbers never turns. -/
structure CfOk (c : SCfg) (ti T : Int) : Prop where
  wt : 1 ≤ c.wt ∧ c.wt ≤ c.mo ∧ c.mo ≤ 1000
  tm : 0 ≤ ti ∧ ti ≤ 1000000
  un : ti + c.mo ≤ T
  last : 1 ≤ c.last ∧ c.last ≤ 12
  ev : 1 ≤ c.ev ∧ c.ev ≤ 6
  rs : Kp.okRs c.rs = true

/-- What Take leaves. -/
def StPost (c : SCfg) (w w' : World) (n : Nat) (S : Sto) (ps : List Pe) (im : List Img) (Rs : List Sto) (way : List (Nat × Lt)) (ti T : Int) (q i : Nat) (p : Pe) (l : Lt) (v : Value) : Prop :=
  ∃ S' p' out, w'.ownsRow w.heap.size 115 2 v out.length (ltC (out.map fun l => (i, l.txt i n))) ∧ SS c w w' S S' ti (ps.set i p') ∧ NInv n S' (ps.set i p') im Rs (way ++ out.map fun l => (i, l)) T (q + 3) ∧ SStep p p' (nwG im.length) l out ∧ out.length ≤ 1

section
variable {n : Nat} {S : Sto} {ps : List Pe} {im : List Img} {Rs : List Sto} {way : List (Nat × Lt)} {T ti : Int} {q : Nat}

theorem StPost.nil {c : SCfg} {w w' : World} {S' : Sto} {i : Nat} {p p' : Pe} {l : Lt} (ss : SS c w w' S S' ti (ps.set i p')) (I : NInv n S' (ps.set i p') im Rs way T (q + 3)) (st : SStep p p' (nwG im.length) l []) : StPost c w w' n S ps im Rs way ti T q i p l (.slice none 0 0) :=
  ⟨S', p', [], World.ownsRow_nil _ _ _ _, ss, by rw [List.map_nil, List.append_nil]; exact I, st, by simp⟩

/-- A replica tells that it has what it was known to have. -/
theorem stake_known (c : SCfg) (C : CfOk c ti T) (I : NInv n S ps im Rs way T q) {i : Nat} {p : Pe} {R : Sto} (hp : ps[i]? = some p) (hR : Rs[i]? = some R) (ha : p.aw = 65) (hq : q ≤ 800000) (w : World) (W : World) (hW : SS c w W S S ti ps) :
    Calls Tryz.prog 61 #[.pointer (some ⟨c.xb, 0, none⟩), .int .i64 i, .int .i64 p.k] W fun e w' => ∃ v, e = .returned v ∧ StPost c w w' n S ps im Rs way ti T q i p (.has p.num p.k) v := by
  have s := I.src
  have o := I.pe i p R hp hR
  have hi : i < ps.length := (List.getElem?_eq_some_iff.1 hp).1
  have hpi : ps[i] = p := (List.getElem?_eq_some_iff.1 hp).2
  have hnq := I.nq
  have hlg := I.lg
  have hml := I.marks
  have hset : ps.set i p = ps := set_self _ _ _ hp
  have hwt := C.wt
  have hun := C.un
  have hti := C.tm
  have hn1 := I.n1
  obtain ⟨g, hg⟩ : ∃ g, p.k = g := ⟨_, rfl⟩
  obtain ⟨nw, hnw⟩ : ∃ nw, nwG im.length = nw := ⟨_, rfl⟩
  obtain ⟨aim, haim⟩ : ∃ aim, p.aim g nw = aim := ⟨_, rfl⟩
  have hgk : g = 0 ∨ (Gv im.length g ∧ ∃ m ∈ S.ms, m.1 = g) := by rw [← hg]; exact o.k
  have hx1 : p.x1 g = p.x := by
    unfold Pe.x1
    split
    · rename_i e
      rcases o.x with e2 | ⟨_, e2⟩
      · exact e2.symm
      · omega
    · rfl
  have hpe : ({ p with k := g, x := p.x1 g } : Pe) = p := by rw [hx1, ← hg]
  have haim2 : aim = if p.x = 0 then nw else p.x := by rw [← haim]; unfold Pe.aim; rw [hx1]
  have hst : SStep p { p with k := g, x := p.x1 g, aw := 0 } nw (.has p.num g) [] ∨ g ≠ aim := by
    by_cases e : g = aim
    · left
      unfold SStep
      simp only
      rw [if_neg (by omega), if_pos ha, haim, if_pos e]
      simp
    · exact Or.inr e
  have hin : g ≠ aim → (∃ y ∈ S.ss, y.guid = aim) ∧ g < aim := fun hne => by
    by_cases hx : p.x = 0
    · rw [if_pos hx] at haim2
      have hnz : nw ≠ 0 := fun e => by
        rcases hgk with e1 | ⟨e1, _⟩
        · omega
        · have h4 := s.le_last e1
          rw [s.lst, hnw] at h4
          have := e1.1
          omega
      rw [haim2]
      refine ⟨?_, ?_⟩
      · have := lastG_mem (l := S.ss) (by rw [s.lst, hnw]; exact hnz)
        rw [s.lst, hnw] at this
        exact this
      · rcases hgk with e1 | ⟨e1, _⟩
        · have : 0 ≤ nw := by rw [← hnw]; unfold nwG; split <;> omega
          omega
        · have h4 := s.le_last e1
          rw [s.lst, hnw] at h4
          omega
    · rw [if_neg hx] at haim2
      rw [haim2]
      obtain ⟨a, b⟩ := o.x.resolve_left hx
      exact ⟨a, by rw [← hg]; exact b⟩
  rw [hg]
  refine (send_any c S ti ps i p g nw aim (streamT g aim (tI im aim) n (flw S aim (plc g) n)) (fun s1 => s1 = S) (fun s2 => s2 = S) (fun s3 => (p.x = 0 ∧ HoU S s3 aim 1) ∨ (p.x ≠ 0 ∧ s3 = S)) W hW.sk hi hpi s.len (by omega) haim (by have := o.num; omega) (by omega) (by omega) (by rw [streamT_size]; have := flw_len S aim (plc g) n; omega)
    ?_ ?_ ?_ ?_ ?_ ?_ ?_ ?_).mono ?_
  · intro hb W' hW'
    have hk0 : g ≠ 0 := fun e => by
      unfold hasB at hb
      rw [Bool.or_eq_true, List.any_eq_true, List.any_eq_true] at hb
      rcases hb with ⟨x, hx, e2⟩ | ⟨x, hx, e2⟩
      · have := (s.sn x hx).1.1
        simp at e2
        omega
      · have := (s.ms x hx).1.1
        simp at e2
        omega
    obtain ⟨m, hm, em⟩ := (hgk.resolve_left hk0).2
    obtain ⟨j, _, hj, _⟩ := fi_some (p := fun y : Int × Int => y.1 == g) S.ms 0 ⟨m, hm, by simp [em]⟩
    rw [Nat.zero_add] at hj
    have hpk : ({ p with k := g } : Pe) = p := by rw [← hg]
    refine (learn_any c S ti ps i p g (fun s1 => s1 = S) (fun s1 => s1 = S) W' hW'.sk hi hpi I.pl (fun W2 hW2 => ?_) (fun s1 _ hn => ?_) (fun s1 e _ => e)).mono ?_
    · refine (mark_again c.B c.b S g W2 hW2 (by omega) j hj).mono ?_
      rintro e w' ⟨rfl, r, f⟩
      exact ⟨0, S, rfl, rfl, r, f, fun _ hk => Or.inl hk⟩
    · exfalso
      rw [hpk, hset, List.any_eq_false] at hn
      exact hn p (List.mem_of_getElem? hp) (by simp)
    · rintro e w' ⟨rfl, hP⟩
      exact ⟨rfl, hP⟩
  · intro hb
    refine ⟨?_, rfl⟩
    rw [hg]
  · rintro e s1 rfl
    refine st_release0 c.B c.b s1 g s.len (fun x hx e2 => ?_)
    have h0 : p.x = 0 := by
      rcases o.x with e3 | ⟨_, e3⟩
      · exact e3
      · omega
    have := (s.sn x hx).1.1
    omega
  · rintro e s1 rfl
    rfl
  · rintro s2 rfl
    exact ⟨by rw [s.lst, hnw], s.len⟩
  · rintro hne s2 rfl W' hW'
    exact st_send c.B c.b s hn1 (by omega) rfl hgk (hin hne).1 (hin hne).2 (by omega) W' hW'
  · rintro hne hx0 s2 rfl W' hW'
    rw [hx1] at hx0
    refine (st_hold c.B c.b s2 aim s.len s.nd (hin hne).1 (fun x hx _ => by have := I.held hx; omega) (by omega) W' hW').mono ?_
    rintro e w' ⟨s3, rfl, u, r, f, t⟩
    exact ⟨s3, rfl, Or.inl ⟨hx0, u⟩, r, f, t⟩
  · rintro hx0 s2 rfl
    rw [hx1] at hx0
    exact Or.inr ⟨hx0, rfl⟩
  · rintro e w' ⟨v, rfl, P⟩
    refine ⟨v, rfl, ?_⟩
    unfold SnPost at P
    by_cases hga : g = aim
    · rw [if_pos hga] at P
      obtain ⟨rfl, s2, rfl, ss⟩ := P
      have I2 := (I.idle hp).le (show q + 1 ≤ q + 3 by omega) (Int.le_refl T)
      have e3 : ({ p with k := g, x := p.x1 g, aw := 0 } : Pe) = { p with aw := 0 } := by rw [hx1, ← hg]
      rw [e3] at ss
      refine StPost.nil (hW.trans ss) I2 ?_
      have := hst.resolve_right (fun hne => hne hga)
      rw [e3] at this
      rw [hnw]
      exact this
    · rw [if_neg hga] at P
      obtain ⟨ow, s3, hQ, ss⟩ := P
      have e3 : (Pe.post { p with k := g, x := aim } 68 (ti + c.wt) : Pe) = Pe.post { p with x := aim } 68 (ti + c.wt) := by rw [← hg]
      rw [e3] at ss
      obtain ⟨hin1, hin2⟩ := hin hga
      obtain ⟨y, hy, ey⟩ := hin1
      have D := s.dok hn1 (by omega) hy (f := g) (hgk.imp_right (fun e => e.1)) (by rw [ey]; exact hin2)
      rw [ey, (s.sn y hy).2.2, ey] at D
      have tu : Turn S s3 (ps.set i (Pe.post { p with x := aim } 68 (ti + c.wt))) ∧ s3.ms = S.ms := by
        rcases hQ with ⟨hx0, u⟩ | ⟨hx0, rfl⟩
        · exact ⟨turn_hold s hp hx0 rfl u, u.ms⟩
        · rw [if_neg hx0] at haim2
          exact ⟨turn_same s hp haim2, rfl⟩
      have hxa : p.x = 0 ∨ p.x = aim := by
        rw [haim2]
        split
        · rename_i e
          exact Or.inl e
        · exact Or.inr rfl
      have I2 := (I.sent hp aim (ti + c.wt) (tI im aim) (flw S aim (plc g) n) (by omega) (by rw [hg]; exact D) ⟨y, hy, ey⟩ hxa tu.1 tu.2).le (show q + 1 ≤ q + 3 by omega) (Int.le_refl T)
      have hsz := hW.fr.size
      refine ⟨s3, _, [.data (p.num + 1) g aim (tI im aim) (flw S aim (plc g) n)], Kp.own_base ow hsz, hW.trans ss, ?_, ?_, by simp⟩
      · rw [hg] at I2 ⊢
        exact I2
      · unfold SStep
        simp only
        rw [if_neg (by omega), if_pos ha, hnw, haim, if_neg hga]
        exact ⟨ti + c.wt, _, _, by rw [← hg], rfl⟩

/-- A replica tells that it has what was sent. -/
theorem stake_sent (c : SCfg) (C : CfOk c ti T) (I : NInv n S ps im Rs way T q) {i : Nat} {p : Pe} {R : Sto} (hp : ps[i]? = some p) (hR : Rs[i]? = some R) (ha : p.aw = 65) (hx : p.x ≠ 0) (hr : p.x ≤ lastG R.ss) (hq : q ≤ 800000) (w : World) (W : World) (hW : SS c w W S S ti ps) :
    Calls Tryz.prog 61 #[.pointer (some ⟨c.xb, 0, none⟩), .int .i64 i, .int .i64 p.x] W fun e w' => ∃ v, e = .returned v ∧ StPost c w w' n S ps im Rs way ti T q i p (.has p.num p.x) v := by
  have s := I.src
  have o := I.pe i p R hp hR
  have hi : i < ps.length := (List.getElem?_eq_some_iff.1 hp).1
  have hpi : ps[i] = p := (List.getElem?_eq_some_iff.1 hp).2
  have hnq := I.nq
  have hlg := I.lg
  have hml := I.marks
  have hwt := C.wt
  have hun := C.un
  have hti := C.tm
  have hn1 := I.n1
  obtain ⟨⟨y, hy, ey⟩, hkx⟩ : (∃ y ∈ S.ss, y.guid = p.x) ∧ p.k < p.x := o.x.resolve_left hx
  have hgx : Gv im.length p.x := by rw [← ey]; exact (s.sn y hy).1
  obtain ⟨nw, hnw⟩ : ∃ nw, nwG im.length = nw := ⟨_, rfl⟩
  have hx1 : p.x1 p.x = 0 := by unfold Pe.x1; rw [if_pos rfl]
  have haim : p.aim p.x nw = nw := by unfold Pe.aim; rw [hx1, if_pos rfl]
  have hnwx : p.x ≤ nw := by
    have h4 := s.le_last hgx
    rw [s.lst, hnw] at h4
    exact h4
  have hg1 := hgx.1
  obtain ⟨Q1, hQ1⟩ : ∃ Q1 : Sto → Prop, (fun s1 => LQ S s1 (ps.set i { p with k := p.x }) p.x) = Q1 := ⟨_, rfl⟩
  obtain ⟨Q2, hQ2⟩ : ∃ Q2 : Sto → Prop, (fun s2 => ∃ s1, LQ S s1 (ps.set i { p with k := p.x }) p.x ∧ HoU s1 s2 p.x (-1)) = Q2 := ⟨_, rfl⟩
  have hL : ∀ s2, Q2 s2 → NInv n s2 (ps.set i { p with k := p.x, x := 0, aw := 0 }) im Rs way T (q + 1) ∧ s2.th = S.th := fun s2 h2 => by
    rw [← hQ2] at h2
    obtain ⟨s1, u, v⟩ := h2
    obtain ⟨t, L⟩ := learnt_turn I hp u v
    exact ⟨(I.learnt hp hR hx hr t L).1, t.th⟩
  have hgp : (ps.set i { p with k := p.x, x := 0, aw := 0 })[i]? = some { p with k := p.x, x := 0, aw := 0 } := List.getElem?_set_self hi
  have hnwin : ∀ s2, Q2 s2 → ∃ z ∈ s2.ss, z.guid = nw := fun s2 h2 => by
    have s' := (hL s2 h2).1.src
    have := lastG_mem (l := s2.ss) (by rw [s'.lst, hnw]; omega)
    rw [s'.lst, hnw] at this
    exact this
  have hmk : ∀ s2, Q2 s2 → p.x = 0 ∨ (Gv im.length p.x ∧ ∃ m ∈ s2.ms, m.1 = p.x) := fun s2 h2 => ((hL s2 h2).1.pe i _ R hgp hR).k
  refine (send_any c S ti ps i p p.x nw nw (streamT p.x nw (tI im nw) n (flw S nw (plc p.x) n)) Q1 Q2 (fun s3 => ∃ s2, Q2 s2 ∧ HoU s2 s3 nw 1) W hW.sk hi hpi s.len (by omega) haim (by have := o.num; omega) (by omega) (by omega) (by rw [streamT_size]; have := flw_len S nw (plc p.x) n; omega)
    ?_ ?_ ?_ ?_ ?_ ?_ ?_ ?_).mono ?_
  · intro _ W' hW'
    rw [← hQ1]
    exact st_learn c I hp hR hx (by omega) ti W' hW'.sk
  · intro hb
    exfalso
    unfold hasB at hb
    rw [Bool.or_eq_false_iff, List.any_eq_false] at hb
    exact hb.1 y hy (by simp [ey])
  · intro _ s1 h1 W' hW'
    rw [← hQ1] at h1
    refine (st_rel c.B c.b I hp hR hx (by omega) h1 W' hW').mono ?_
    rintro e w' ⟨en, s2, rfl, u, r2, f2, t2⟩
    exact ⟨en, s2, rfl, by rw [← hQ2]; exact ⟨s1, h1, u⟩, r2, f2, t2⟩
  · intro hne
    exact absurd rfl hne
  · intro s2 h2
    have s' := (hL s2 h2).1.src
    exact ⟨by rw [s'.lst, hnw], s'.len⟩
  · intro hne s2 h2 W' hW'
    obtain ⟨I2, e2⟩ := hL s2 h2
    have := I2.marks
    exact st_send c.B c.b I2.src hn1 (by omega) e2 (hmk s2 h2) (hnwin s2 h2) (by omega) (by omega) W' hW'
  · intro hne _ s2 h2 W' hW'
    obtain ⟨I2, e2⟩ := hL s2 h2
    have hlg2 := I2.lg
    refine (st_hold c.B c.b s2 nw I2.src.len I2.src.nd (hnwin s2 h2) (fun x hx _ => by have := I2.held hx; omega) (by omega) W' hW').mono ?_
    rintro e w' ⟨s3, rfl, u, r, f, t⟩
    exact ⟨s3, rfl, ⟨s2, h2, u⟩, r, f, t⟩
  · intro hne
    exact absurd hx1 hne
  · rintro e w' ⟨v, rfl, P⟩
    refine ⟨v, rfl, ?_⟩
    unfold SnPost at P
    by_cases hga : p.x = nw
    · rw [if_pos hga] at P
      obtain ⟨rfl, s2, h2, ss⟩ := P
      rw [hx1] at ss
      refine StPost.nil (hW.trans ss) ((hL s2 h2).1.le (by omega) (Int.le_refl T)) ?_
      unfold SStep
      simp only
      rw [if_neg (by omega), if_pos ha, hnw, haim, if_pos hga, hx1]
      simp
    · rw [if_neg hga] at P
      obtain ⟨ow, s3, ⟨s2, h2, u⟩, ss⟩ := P
      obtain ⟨I2, e2⟩ := hL s2 h2
      obtain ⟨z, hz, ez⟩ := hnwin s2 h2
      have D := I2.src.dok hn1 (by omega) hz (f := p.x) (Or.inr hgx) (by rw [ez]; omega)
      rw [ez, (I2.src.sn z hz).2.2, ez, flw_congr (s := S) (fun i => by rw [e2])] at D
      have tu := turn_hold I2.src hgp rfl (p' := Pe.post { p with k := p.x, x := nw } 68 (ti + c.wt)) rfl u
      have I3 := (I2.sent hgp nw (ti + c.wt) (tI im nw) (flw S nw (plc p.x) n) (by omega) D ⟨z, hz, ez⟩ (Or.inl rfl) tu u.ms).le (show q + 1 + 1 ≤ q + 3 by omega) (Int.le_refl T)
      rw [List.set_set] at I3
      have hsz := hW.fr.size
      refine ⟨s3, Pe.post { p with k := p.x, x := nw } 68 (ti + c.wt), [.data (p.num + 1) p.x nw (tI im nw) (flw S nw (plc p.x) n)], Kp.own_base ow hsz, hW.trans ss, I3, ?_, by simp⟩
      unfold SStep
      simp only
      rw [if_neg (by omega), if_pos ha, hnw, haim, if_neg hga]
      exact ⟨ti + c.wt, _, _, rfl, rfl⟩

theorem stake (c : SCfg) (C : CfOk c ti T) (I : NInv n S ps im Rs way T q) {i : Nat} {p : Pe} {R : Sto} (hp : ps[i]? = some p) (hR : Rs[i]? = some R) {l : Lt} (hl : LtOk n im p (lastG R.ss) l) (hb : (∃ num g, l = .has num g) ∨ ∃ num g, l = .got num g) (hq : q ≤ 800000) (w : World) (h : SKc c w S ti ps) :
    Calls Tryz.prog 39 #[.pointer (some ⟨c.xb, 0, none⟩), .int .i64 i, .string (l.txt i n)] w fun e w' => ∃ v, e = .returned v ∧ StPost c w w' n S ps im Rs way ti T q i p l v := by
  have s := I.src
  have o := I.pe i p R hp hR
  have hi : i < ps.length := (List.getElem?_eq_some_iff.1 hp).1
  have hpi : ps[i] = p := (List.getElem?_eq_some_iff.1 hp).2
  have hset : ps.set i p = ps := set_self _ _ _ hp
  have hpl := I.pl
  have hnq := I.nq
  have hlast : lastG R.ss ≤ 1000000 + (im.length : Int) := by
    by_cases h0 : lastG R.ss = 0
    · omega
    · obtain ⟨x, hx, e⟩ := lastG_mem h0
      have := ((I.re R (List.mem_of_getElem? hR)).ri x hx).1.2
      omega
  have hnum := o.num
  rcases hb with ⟨num, g, rfl⟩ | ⟨num, g, rfl⟩
  · obtain ⟨l1, l2, l3, l4⟩ := hl
    have hr : Reads (Lt.txt i n (.has num g)) 72 i num g := fun W => pl_has i num g W (by omega) (by omega) (by omega)
    by_cases hold : p.aw = 0 ∨ num ≠ p.num
    · refine (take_old c S ti ps i p _ 72 num g w h hi hpi hr hold).mono ?_
      rintro e w' ⟨rfl, ss⟩
      refine ⟨_, rfl, StPost.nil (p' := p) (by rw [hset]; exact ss) (by rw [hset]; exact I.le (by omega) (Int.le_refl T)) ?_⟩
      unfold SStep
      simp only
      rw [if_pos hold]
      simp
    · have hnn : num = p.num := Classical.byContradiction fun e => hold (Or.inr e)
      have haw : p.aw ≠ 0 := fun e => hold (Or.inl e)
      subst hnn
      rcases o.aw with e | e | e
      · exact absurd e haw
      · rcases l4 rfl e with e2 | ⟨e2, e3⟩
        · refine take_send c S ti ps i p _ 72 p.num g _ w h hi hpi hr e rfl rfl (fun W hW => ?_)
          rw [e2]
          exact stake_known c C I hp hR e hq w W hW
        · refine take_send c S ti ps i p _ 72 p.num g _ w h hi hpi hr e rfl rfl (fun W hW => ?_)
          rw [e3]
          exact stake_sent c C I hp hR e e2 (by omega) hq w W hW
      · refine (take_idle c S ti ps i p _ 72 p.num g w h hi hpi hr e rfl rfl).mono ?_
        rintro e' w' ⟨rfl, ss⟩
        refine ⟨_, rfl, StPost.nil ss ((I.idle hp).le (by omega) (Int.le_refl T)) ?_⟩
        unfold SStep
        simp only
        rw [if_neg (by omega), if_neg (by omega)]
        simp
  · obtain ⟨l1, l2, l3⟩ := hl
    have hr : Reads (Lt.txt i n (.got num g)) 71 i num g := fun W => pl_got i num g W (by omega) (by omega) (by omega)
    have hno : ∀ w' : World, SS c w w' S S ti ps → ¬ (p.aw = 68 ∧ num = p.num ∧ g = p.x) → StPost c w w' n S ps im Rs way ti T q i p (.got num g) (.slice none 0 0) := fun w' ss hn => by
      refine StPost.nil (p' := p) (by rw [hset]; exact ss) (by rw [hset]; exact I.le (by omega) (Int.le_refl T)) ?_
      unfold SStep
      simp only
      rw [if_neg hn]
      simp
    by_cases hold : p.aw = 0 ∨ num ≠ p.num
    · refine (take_old c S ti ps i p _ 71 num g w h hi hpi hr hold).mono ?_
      rintro e w' ⟨rfl, ss⟩
      exact ⟨_, rfl, hno w' ss (fun e => by omega)⟩
    · have hnn : num = p.num := Classical.byContradiction fun e => hold (Or.inr e)
      have haw : p.aw ≠ 0 := fun e => hold (Or.inl e)
      by_cases hy : p.aw = 68 ∧ g = p.x
      · obtain ⟨hy1, hy2⟩ := hy
        have hx : p.x ≠ 0 := by omega
        subst hy2
        refine (take_got c S ti ps i p _ 71 num p.x (fun s1 => LQ S s1 (ps.set i { p with k := p.x }) p.x) (fun s2 => ∃ s1, LQ S s1 (ps.set i { p with k := p.x }) p.x ∧ HoU s1 s2 p.x (-1)) w h hi hpi hr hy1 rfl hnn rfl (fun W hW => st_learn c I hp hR hx (by omega) ti W hW.sk) (fun s1 u W hW => ?_)).mono ?_
        · refine (st_rel c.B c.b I hp hR hx (by omega) u W hW).mono ?_
          rintro e w' ⟨en, s2, rfl, v, r2, f2, t2⟩
          exact ⟨en, s2, rfl, ⟨s1, u, v⟩, r2, f2, t2⟩
        · rintro e w' ⟨rfl, s2, ⟨s1, u, v⟩, ss⟩
          obtain ⟨t, L⟩ := learnt_turn I hp u v
          refine ⟨_, rfl, StPost.nil ss (((I.learnt hp hR hx l3 t L).1).le (by omega) (Int.le_refl T)) ?_⟩
          unfold SStep
          simp only
          rw [if_pos ⟨hy1, hnn, trivial⟩]
          simp
      · have hz : (p.aw = 65 ∧ (71 : Int) = 71) ∨ (p.aw = 68 ∧ (71 : Int) = 71 ∧ g ≠ p.x) := by
          rcases o.aw with e | e | e
          · exact absurd e haw
          · exact Or.inl ⟨e, rfl⟩
          · exact Or.inr ⟨e, rfl, fun e2 => hy ⟨e, e2⟩⟩
        refine (take_nil c S ti ps i p _ 71 num g w h hi hpi hr hz hnn).mono ?_
        rintro e w' ⟨rfl, ss⟩
        exact ⟨_, rfl, hno w' ss (fun e => hy ⟨e.1, e.2.2⟩)⟩
end
end Go.Proofs.YthdhegmlknpllabGreatDoor
