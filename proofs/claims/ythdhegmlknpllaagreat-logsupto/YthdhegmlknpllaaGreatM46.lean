import Derived.Test.YthdhegmlknpllaaGreatM28
import Derived.Test.YthdhegmlknpllaaGreatM10
import Derived.Test.YthdhegmlknpllaaGreatM39
import Derived.Test.YthdhegmlknpllaaGreatM09
namespace Go.Proofs.YthdhegmlknpllaaGreat
open Go.RowKit Go.Maps Go.MuLone
set_option maxRecDepth 100000 in
set_option maxHeartbeats 1600000 in
theorem rsend_noto (B b : Nat) (s : RSto) (f t : Int) (w : World) (h : RRep B w b s) (hl : s.sh.length ≤ 12) (hf : fi (fun y : RSh => y.guid == t) 0 s.sh = -1) (c : Int) (hcm : ∀ W, RRep B W b s → Calls Tryz.prog 76 #[.pointer (some ⟨b, 0, none⟩), .int .i64 f] W fun e w' => e = .returned (.int .i64 c) ∧ Fr [] W w') :
  Calls Tryz.prog 51 #[.pointer (some ⟨b, 0, none⟩), .int .i64 f, .int .i64 t] w fun e w' => e = .returned (.tuple #[.string ⟨#[]⟩, .int .i64 3]) ∧ Fr [] w w' := by
 have H1 : Hid (Calls Tryz.prog 66 #[.pointer (some ⟨b, 0, none⟩), .int .i64 t] w fun e w' => e = .returned (.int .i64 (-1)) ∧ w' = w) := by
  have h8 := rshot_any B b s t w h (by omega)
  rw [hf] at h8
  exact h8
 have HS : Hid (RRep B w b s) := h
 have HC : Hid (∀ W, RRep B W b s → Calls Tryz.prog 76 #[.pointer (some ⟨b, 0, none⟩), .int .i64 f] W fun e w' => e = .returned (.int .i64 c) ∧ Fr [] W w') := hcm
 clear h hf hcm
 by_cases hf0 : f = 0
 · subst hf0
   go_enter Tryz.func51, Tryz.ntmps51
   go_wp2_with (first
    | (go_at_call 66; refine H1.out.mono ?_; rintro e w' ⟨rfl, hw'⟩; have hw'' := hw'.symm; subst hw''))
   go_ret2
   exact ⟨rfl, Fr.refl _ _⟩
 · have t3 : (f == 0) = false := by simpa using hf0
   go_enter Tryz.func51, Tryz.ntmps51
   go_wp2_with (first
    | (go_at_call 76; refine (HC.out _ HS.out).mono ?_; rintro e w2 ⟨rfl, f2⟩; have H2 : Hid (Fr [] w w2) := f2; clear f2)
    | (go_at_call 66; refine H1.out.mono ?_; rintro e w' ⟨rfl, hw'⟩; have hw'' := hw'.symm; subst hw''))
   go_ret2
   exact ⟨rfl, H2.out⟩
set_option maxRecDepth 100000 in
set_option maxHeartbeats 1600000 in
theorem rsend_noto0 (B b : Nat) (s : RSto) (t : Int) (w : World) (h : RRep B w b s) (hl : s.sh.length ≤ 12) (hf : fi (fun y : RSh => y.guid == t) 0 s.sh = -1) :
  Calls Tryz.prog 51 #[.pointer (some ⟨b, 0, none⟩), .int .i64 0, .int .i64 t] w fun e w' => e = .returned (.tuple #[.string ⟨#[]⟩, .int .i64 3]) ∧ Fr [] w w' := by
 have H1 : Hid (Calls Tryz.prog 66 #[.pointer (some ⟨b, 0, none⟩), .int .i64 t] w fun e w' => e = .returned (.int .i64 (-1)) ∧ w' = w) := by
  have h8 := rshot_any B b s t w h (by omega)
  rw [hf] at h8
  exact h8
 clear h hf
 go_enter Tryz.func51, Tryz.ntmps51
 go_wp2_with (first
  | (go_at_call 66; refine H1.out.mono ?_; rintro e w' ⟨rfl, hw'⟩; have hw'' := hw'.symm; subst hw''))
 go_ret2
 exact ⟨rfl, Fr.refl _ _⟩
set_option maxRecDepth 100000 in
set_option maxHeartbeats 1600000 in
theorem rsend_nofrom (B b : Nat) (s : RSto) (f t : Int) (j : Nat) (w : World) (h : RRep B w b s) (hl : s.sh.length ≤ 12) (hf : fi (fun y : RSh => y.guid == t) 0 s.sh = (j : Int)) (hf0 : f ≠ 0) (hcm : ∀ W, RRep B W b s → Calls Tryz.prog 76 #[.pointer (some ⟨b, 0, none⟩), .int .i64 f] W fun e w' => e = .returned (.int .i64 (-1)) ∧ Fr [] W w') :
  Calls Tryz.prog 51 #[.pointer (some ⟨b, 0, none⟩), .int .i64 f, .int .i64 t] w fun e w' => e = .returned (.tuple #[.string ⟨#[]⟩, .int .i64 3]) ∧ Fr [] w w' := by
 have H1 : Hid (Calls Tryz.prog 66 #[.pointer (some ⟨b, 0, none⟩), .int .i64 t] w fun e w' => e = .returned (.int .i64 j) ∧ w' = w) := by
  have h8 := rshot_any B b s t w h (by omega)
  rw [hf] at h8
  exact h8
 have HS : Hid (RRep B w b s) := h
 have HC : Hid (∀ W, RRep B W b s → Calls Tryz.prog 76 #[.pointer (some ⟨b, 0, none⟩), .int .i64 f] W fun e w' => e = .returned (.int .i64 (-1)) ∧ Fr [] W w') := hcm
 have j0 : ¬ (j : Int) < 0 := by omega
 have t3 : (f == 0) = false := by simpa using hf0
 clear h hf hcm hf0
 go_enter Tryz.func51, Tryz.ntmps51
 go_wp2_with (first
  | (go_at_call 76; refine (HC.out _ HS.out).mono ?_; rintro e w2 ⟨rfl, f2⟩; have H2 : Hid (Fr [] w w2) := f2; clear f2)
  | (go_at_call 66; refine H1.out.mono ?_; rintro e w' ⟨rfl, hw'⟩; have hw'' := hw'.symm; subst hw''))
 go_ret2
 exact ⟨rfl, H2.out⟩
set_option maxRecDepth 100000 in
set_option maxHeartbeats 1600000 in
theorem rsend_arg (B b : Nat) (s : RSto) (f t c : Int) (j : Nat) (x : RSh) (w : World) (h : RRep B w b s) (hl : s.sh.length ≤ 12) (hf : fi (fun y : RSh => y.guid == t) 0 s.sh = (j : Int)) (hx : s.sh[j]? = some x) (hf0 : f ≠ 0) (hcm : ∀ W, RRep B W b s → Calls Tryz.prog 76 #[.pointer (some ⟨b, 0, none⟩), .int .i64 f] W fun e w' => e = .returned (.int .i64 c) ∧ Fr [] W w') (hc0 : 0 ≤ c) (hcx : x.came ≤ c) :
  Calls Tryz.prog 51 #[.pointer (some ⟨b, 0, none⟩), .int .i64 f, .int .i64 t] w fun e w' => e = .returned (.tuple #[.string ⟨#[]⟩, .int .i64 1]) ∧ Fr [] w w' := by
 have H1 : Hid (Calls Tryz.prog 66 #[.pointer (some ⟨b, 0, none⟩), .int .i64 t] w fun e w' => e = .returned (.int .i64 j) ∧ w' = w) := by
  have h8 := rshot_any B b s t w h (by omega)
  rw [hf] at h8
  exact h8
 have hj : j < s.sh.length := (List.getElem?_eq_some_iff.1 hx).1
 obtain ⟨ao, cap, hsv⟩ := own_shape h.sh
 have ho := h.sh
 rw [hsv] at ho
 obtain ⟨gg, e', hcp, _⟩ := own_addr ho (by omega)
 subst e'
 have HC2 : Hid (∀ W, Fr [] w W → W.cell? ⟨b, 36, none⟩ = some (.slice (some ⟨gg, 0, none⟩) s.sh.length cap) ∧ W.cell? ⟨gg, j * 36 + 3, none⟩ = some (.int .i64 x.came)) := fun W hW => by
  have h2 := h.kept0 hW
  refine ⟨by rw [← hsv]; exact h2.cells.2.2.2.2.1, ?_⟩
  rw [h2.shotC hsv j hj 3 (by omega), (List.getElem?_eq_some_iff.1 hx).2]
  rfl
 have HS : Hid (RRep B w b s) := h
 have HC : Hid (∀ W, RRep B W b s → Calls Tryz.prog 76 #[.pointer (some ⟨b, 0, none⟩), .int .i64 f] W fun e w' => e = .returned (.int .i64 c) ∧ Fr [] W w') := hcm
 obtain ⟨n, hn⟩ : ∃ n, s.sh.length = n := ⟨_, rfl⟩
 obtain ⟨xc, hxc⟩ : ∃ xc, x.came = xc := ⟨_, rfl⟩
 rw [hn, hxc] at HC2
 rw [hn] at hj
 rw [hxc] at hcx
 have j0 : ¬ (j : Int) < 0 := by omega
 have j1 : (j : Int) < (n : Int) := by omega
 have j2 : (0 : Int) ≤ (j : Int) := by omega
 have t3 : (f == 0) = false := by simpa using hf0
 have t4 : ¬ c < 0 := by omega
 have t5 : xc ≤ c := hcx
 clear h ho hx hf hsv hn hxc hcm hf0
 go_enter Tryz.func51, Tryz.ntmps51
 go_wp2_with (first
  | (go_at_call 76; refine (HC.out _ HS.out).mono ?_; rintro e w2 ⟨rfl, f2⟩; have H2 : Hid (Fr [] w w2) := f2; obtain ⟨k36, k3⟩ := HC2.out w2 f2; clear f2)
  | (go_at_call 66; refine H1.out.mono ?_; rintro e w' ⟨rfl, hw'⟩; have hw'' := hw'.symm; subst hw''))
 go_ret2
 exact ⟨rfl, H2.out⟩
set_option maxRecDepth 100000 in
set_option maxHeartbeats 1600000 in
theorem send_noto (B b : Nat) (s : Sto) (f t : Int) (w : World) (h : Rep B w b 0 s) (hl : s.ss.length ≤ 12) (hf : fi (fun y : Sn => y.guid == t) 0 s.ss = -1) (c : Int) (kn : Bool)
  (hc : ∀ W, Rep B W b 1 s → Calls Tryz.prog 74 #[.pointer (some ⟨b, 0, none⟩), .int .i64 f] W fun e w' => e = .returned (.tuple #[.int .i64 c, .bool kn]) ∧ Fr [] W w') :
  Calls Tryz.prog 50 #[.pointer (some ⟨b, 0, none⟩), .int .i64 f, .int .i64 t] w fun e w' => e = .returned (.tuple #[.string ⟨#[]⟩, .int .i64 3]) ∧ Rep B w' b 0 s ∧ Fr (foot b s) w w' := by
 obtain ⟨w1, hw1, R1⟩ := h.lk
 have HL := lock_free Tryz.muLib ⟨b, 0, none⟩ w h.cells.1 (h.frozen 0)
 have F1 := lkF s hw1
 have HF : Hid (w.setCell ⟨b, 0, none⟩ (.int .i32 1) = w1 ∧ Rep B w1 b 1 s ∧ Fr (foot b s) w w1) := ⟨hw1, R1, F1⟩
 have HS := findSnapshot_any B b 1 s t w1 R1 (by omega)
 rw [hf] at HS
 have HC : Hid (∀ W, Rep B W b 1 s → Calls Tryz.prog 74 #[.pointer (some ⟨b, 0, none⟩), .int .i64 f] W fun e w' => e = .returned (.tuple #[.int .i64 c, .bool kn]) ∧ Fr [] W w') := hc
 clear h R1 F1 hw1 hf hc
 go_enter_defers Tryz.func50, Tryz.ntmps50
 go_wp2_with (first
  | (go_at_call 23; refine HL.mono ?_; rintro e w' ⟨rfl, hw'⟩; rw [HF.out.1] at hw'; have hw' := hw'.symm; subst hw')
  | (go_at_call 65; refine HS.mono ?_; rintro e w2 ⟨rfl, hfr⟩; have HR2 : Hid (Rep B w2 b 1 s ∧ Fr (foot b s) w w2) := ⟨HF.out.2.1.kept0 hfr, HF.out.2.2.trans hfr (by simp)⟩; clear hfr)
  | (go_at_call 74; refine (HC.out _ HR2.out.1).mono ?_; rintro e w3 ⟨rfl, hfr⟩; have HR3 : Hid (Rep B w3 b 1 s ∧ Fr (foot b s) w w3) := ⟨HR2.out.1.kept0 hfr, HR2.out.2.trans hfr (by simp)⟩; clear hfr))
 refine leaves_cons (f := 24) (args := #[.pointer (some ⟨b, 0, none⟩)]) (by simp) (by simp [go_sem]) ?_
 refine (unlock_deferred Tryz.muLib ⟨b, 0, none⟩ .returning _ HR3.out.1.cells.1 (HR3.out.1.frozen 0)).mono ?_
 rintro e u' w'' ⟨rfl, rfl, rfl⟩
 exact ⟨_, results_tmp2 rfl _ _ _, rfl, HR3.out.1.lock 0, HR3.out.2.setCell _ (Or.inl (by simp [foot]))⟩
theorem came_zero (B b : Nat) (q : Int) (s : Sto) (w : World) (_h : Rep B w b q s) :
  Calls Tryz.prog 74 #[.pointer (some ⟨b, 0, none⟩), .int .i64 0] w fun e w' => e = .returned (.tuple #[.int .i64 0, .bool true]) ∧ Fr [] w w' := by
 go_enter Tryz.func74, Tryz.ntmps74
 go_wp2
 go_ret2
 exact ⟨rfl, Fr.refl _ _⟩
section
variable {O : Obj} {B : Nat} {w w1 w2 W : World} {db b rb : Nat} {s s' : Sto} {r r' : RSto} {q : Nat}
theorem still2 (h : Sim s r q) {v : Value} {f : Nat} {args : Array Value} (hc : ∀ W, RRep B W rb r → Calls Tryz.prog f args W fun e w2 => e = .returned v ∧ Fr [] W w2) : ∀ W, RRep B W rb r → Calls Tryz.prog f args W fun e w2 => e = .returned v ∧ ∃ r', RRep B w2 rb r' ∧ Fr (rfoot rb r) W w2 ∧ (∀ k ∈ rfoot rb r', k ∈ rfoot rb r ∨ W.heap.size ≤ k) ∧ Sim s r' (q + 1) ∧ LStep s.log r s.log r' := fun W hW => by
 refine (hc W hW).mono ?_
 rintro e w2 ⟨he, hf⟩
 exact ⟨he, r, hW.kept0 hf, hf.mono (by simp), fun k hk => Or.inl hk, h.le (by omega), LStep.stay _ _⟩
theorem simCame (m : Sim s r q) (f : Int) (hf0 : f ≠ 0) :
  (∃ cp cr, (∀ qq W, Rep B W b qq s → Calls Tryz.prog 74 #[.pointer (some ⟨b, 0, none⟩), .int .i64 f] W fun e w' => e = .returned (.tuple #[.int .i64 cp, .bool true]) ∧ Fr [] W w') ∧ (∀ W, RRep B W rb r → Calls Tryz.prog 76 #[.pointer (some ⟨rb, 0, none⟩), .int .i64 f] W fun e w' => e = .returned (.int .i64 cr) ∧ Fr [] W w') ∧ f ∈ gls s ∧ ∀ C, CC s r C → cp = (C f).1 ∧ cr = (C f).2) ∨
  ((∀ qq W, Rep B W b qq s → Calls Tryz.prog 74 #[.pointer (some ⟨b, 0, none⟩), .int .i64 f] W fun e w' => e = .returned (.tuple #[.int .i64 0, .bool false]) ∧ Fr [] W w') ∧ ∀ W, RRep B W rb r → Calls Tryz.prog 76 #[.pointer (some ⟨rb, 0, none⟩), .int .i64 f] W fun e w' => e = .returned (.int .i64 (-1)) ∧ Fr [] W w') := by
 have hl12 := m.len
 have e2 := m.glen
 have e3 := m.mlen
 have hg0 : (f == 0) = false := by simpa using hf0
 rcases simSpot m f with ⟨e, e'⟩ | ⟨j, x, y, hx, hy, e, e', hxg, hyg, hh, hxm, hym⟩
 · rcases fi_cases (fun y : Int × Int => y.1 == f) s.ms with em | ⟨i, hi, em, hp⟩
   · right
     exact ⟨fun qq W hW => came_none B b qq s f W hW hl12.1 hl12.2 hg0 e em, fun W hW => rcame_none B rb r f W hW (by omega) (by omega) e' (by rw [m.fim]; exact em)⟩
   · left
     have hi' : i < r.ms.length := by omega
     have hp1 : s.ms[i].1 = f := by simpa using hp
     have hp2 : r.ms[i].1 = f := by
      have e9 := congrArg (fun l => l[i]?) m.ms
      simp only [List.getElem?_map] at e9
      rw [List.getElem?_eq_getElem hi, List.getElem?_eq_getElem hi'] at e9
      simp at e9
      omega
     refine ⟨s.ms[i].2, r.ms[i].2, fun qq W hW => came_mark B b qq s f i s.ms[i] W hW hl12.1 hl12.2 hg0 e em (List.getElem?_eq_getElem hi), fun W hW => rcame_mark B rb r f i r.ms[i] W hW (by omega) (by omega) e' (by rw [m.fim]; exact em) (List.getElem?_eq_getElem hi'), mem_gls.2 (Or.inr ⟨s.ms[i], List.getElem_mem _, hp1⟩), fun C cc => ⟨?_, ?_⟩⟩
     · rw [cc.pm _ (List.getElem_mem hi), hp1]
     · rw [cc.rm _ (List.getElem_mem hi'), hp2]
 · left
   refine ⟨x.came, y.came, fun qq W hW => came_snap B b qq s f j x W hW hl12.1 hg0 e hx, fun W hW => rcame_shot B rb r f j y W hW (by omega) e' hy, mem_gls.2 (Or.inl ⟨x, hxm, hxg⟩), fun C cc => ⟨?_, ?_⟩⟩
   · rw [cc.ps x hxm, hxg]
   · rw [cc.rs y hym, hyg]
theorem flw_same {y : RSh} (bo : Nat → Int) (al : Bool) (cp cr : Int) (h : ∀ (k : Nat) (n z : Int), k < s.vol.length → n = (s.th y.guid k).n → z = bo k → (cp ≤ n ↔ (al || decide (cr < z)) = true)) : flw s y.guid cp s.vol.length = rflw al bo cr (fun k => (s.th y.guid k).x) s.vol.length := by
 unfold flw rflw
 have hcg : ∀ (l : List Nat), (∀ i ∈ l, i < s.vol.length) → l.filterMap (fun i : Nat => if cp ≤ (s.th y.guid (i : Int)).n then some ((i : Int), (s.th y.guid (i : Int)).x) else none) = l.filterMap (fun i => if al || decide (cr < bo i) then some ((i : Int), (s.th y.guid i).x) else none) := fun l hl => by
  induction l with
  | nil => rfl
  | cons a l ih =>
   have ha := h a _ _ (hl a (by simp)) rfl rfl
   rw [List.filterMap_cons, List.filterMap_cons, ih (fun i hi => hl i (by simp [hi]))]
   by_cases hq : cp ≤ (s.th y.guid (a : Int)).n
   · rw [if_pos hq, if_pos (ha.1 hq)]
   · rw [if_neg hq, if_neg (fun h9 => hq (ha.2 h9))]
 exact hcg _ (fun i hi => List.mem_range.1 hi)
def fS (p : { p : ByteArray × Int // p.1.size ≤ 1000 }) : Value := fT p.1
theorem stream_size (f t m nb : Int) (l : List (Int × B4)) (h : l.length ≤ 16) : (streamT f t m nb l).size ≤ 1000 := by
 have e : (bodyT f t m nb l).length = 18 + 5 * l.length := by
  rw [body_split]
  simp only [List.length_append, blT_len, B4.list', List.length_cons, List.length_nil]
  omega
 unfold streamT
 rw [ByteArray.size_append]
 have e2 : (⟨(bodyT f t m nb l).toArray⟩ : ByteArray).size = (bodyT f t m nb l).length := by simp [ByteArray.size]
 have e3 : (chk (bodyT f t m nb l)).ba.size = 4 := rfl
 omega
set_option maxRecDepth 100000 in
theorem s_send (h : SD O B w db b rb s r) (m : Sim s r q) (f t : Int) :
  Calls Tryz.prog 50 #[.pointer (some ⟨b, 0, none⟩), .int .i64 f, .int .i64 t] w (PS fS O B w db b rb s r 51 #[.pointer (some ⟨rb, 0, none⟩), .int .i64 f, .int .i64 t]) := by
 have hl12 := m.len
 have e2 := m.glen
 have hbl := m.bl
 rcases simSpot m t with ⟨e, e'⟩ | ⟨j, x, y, hx, hy, e, e', hxg, hyg, hh, hxm, hym⟩
 · -- no such snapshot
   have any : ∃ c kn cr, (∀ qq W, Rep B W b qq s → Calls Tryz.prog 74 #[.pointer (some ⟨b, 0, none⟩), .int .i64 f] W fun e w' => e = .returned (.tuple #[.int .i64 c, .bool kn]) ∧ Fr [] W w') ∧ (f ≠ 0 → ∀ W, RRep B W rb r → Calls Tryz.prog 76 #[.pointer (some ⟨rb, 0, none⟩), .int .i64 f] W fun e w' => e = .returned (.int .i64 cr) ∧ Fr [] W w') := by
    by_cases hf0 : f = 0
    · subst hf0
      exact ⟨0, true, 0, fun qq W hW => came_zero B b qq s W hW, fun h => absurd rfl h⟩
    · rcases simCame (B := B) (b := b) (rb := rb) m f hf0 with ⟨cp, cr, h1, h2, _⟩ | ⟨h1, h2⟩
      · exact ⟨cp, true, cr, h1, fun _ => h2⟩
      · exact ⟨0, false, -1, h1, fun _ => h2⟩
   obtain ⟨c, kn, cr, h1, h2⟩ := any
   refine (send_noto B b s f t w h.rep hl12.1 e c kn (h1 1)).mono ?_
   rintro e9 w1 ⟨rfl, rp, f1⟩
   obtain ⟨b1, hr⟩ := h.pairS rp f1 (f := 51) (args := #[.pointer (some ⟨rb, 0, none⟩), .int .i64 f, .int .i64 t]) (v := fT (⟨#[]⟩, 3)) (fun W hW => by
    by_cases hf0 : f = 0
    · subst hf0
      exact rsend_noto0 B rb r t W hW (by omega) e'
    · exact rsend_noto B rb r f t W hW (by omega) e' cr (h2 hf0))
   exact ⟨⟨(⟨#[]⟩, 3), by show 0 ≤ 1000; omega⟩, rfl, b1, hr⟩
 · obtain ⟨C, cc⟩ := m.cc
   have htg : t ∈ gls s := mem_gls.2 (Or.inl ⟨x, hxm, hxg⟩)
   have htb := m.gr t htg
   have hxc : x.came = (C t).1 := by rw [cc.ps x hxm, hxg]
   have hyc : y.came = (C t).2 := by rw [cc.rs y hym, hyg]
   have hrg := cc.rng t htg
   have hj : j < s.ss.length := (List.getElem?_eq_some_iff.1 hx).1
   have htime : x.time = y.time := by
    have e9 := m.at hj
    rw [(List.getElem?_eq_some_iff.1 hx).2, (List.getElem?_eq_some_iff.1 hy).2] at e9
    unfold t3 r3 at e9
    simp only [Prod.mk.injEq] at e9
    exact e9.2.1
   have htr := m.tr x hxm
   have ht64 : In64 t := ⟨by omega, by omega⟩
   have go : ∀ (al : Bool) (cp cr : Int), (∀ W, RRep B W rb r → ∀ (d : Nat → B4) (bo : Nat → Int), (∀ k, k < r.blocks → y.dat[k]? = some (d k).ba) → (∀ k, k < r.blocks → y.born[k]? = some (bo k)) → Calls Tryz.prog 51 #[.pointer (some ⟨rb, 0, none⟩), .int .i64 f, .int .i64 t] W fun e w' => e = .returned (.tuple #[.string (streamT f t y.time r.blocks (rflw al bo cr d r.blocks)), .int .i64 0]) ∧ Fr [] W w') → (∀ W, Rep B W b 1 s → Calls Tryz.prog 74 #[.pointer (some ⟨b, 0, none⟩), .int .i64 f] W fun e w' => e = .returned (.tuple #[.int .i64 cp, .bool true]) ∧ Fr [] W w') → cp < x.came → (∀ (n z : Int), CT C (gls s) s.came r.now n z → (cp ≤ n ↔ (al || decide (cr < z)) = true)) → Calls Tryz.prog 50 #[.pointer (some ⟨b, 0, none⟩), .int .i64 f, .int .i64 t] w (PS fS O B w db b rb s r 51 #[.pointer (some ⟨rb, 0, none⟩), .int .i64 f, .int .i64 t]) := fun al cp cr hR hP hlt hCT => by
    refine (send_ok B b s f t cp j x w h.rep hl12.1 hbl.2.2 ht64 e hx hP hlt).mono ?_
    rintro e9 w1 ⟨rfl, rp, f1⟩
    obtain ⟨b1, hr⟩ := h.pairS rp f1 (f := 51) (args := #[.pointer (some ⟨rb, 0, none⟩), .int .i64 f, .int .i64 t]) (v := fT (streamT f t x.time s.vol.length (flw s t cp s.vol.length), 0)) (fun W hW => by
     have hwf := hW.wf y hym
     have hbo : ∀ k, k < s.vol.length → y.born[k]? = some (y.born.getD k 0) := fun k hk => by
      have : k < y.born.length := by rw [hwf.2]; omega
      simp [this]
     have h8 := hR W hW (fun k => (s.th y.guid k).x) (fun k => y.born.getD k 0) (fun k hk => m.th y hym k (by omega)) (fun k hk => hbo k (by omega))
     have hfl := flw_same (s := s) (y := y) (fun k => y.born.getD k 0) al cp cr (fun k n z hk hn hz => by
      obtain ⟨z', e1, e2⟩ := cc.tb y hym k hk
      have e3 := hbo k hk
      rw [e1] at e3
      have e4 : z' = z := by rw [hz]; simpa using e3
      rw [hn, ← e4]
      exact hCT _ _ e2)
     rw [hyg] at hfl h8
     rw [hbl.1, ← hfl, ← htime] at h8
     exact h8)
    exact ⟨⟨(streamT f t x.time s.vol.length (flw s t cp s.vol.length), 0), stream_size _ _ _ _ _ (Nat.le_trans (flw_len _ _ _ _) hbl.2.2)⟩, rfl, b1, hr⟩
   by_cases hf0 : f = 0
   · subst hf0
     refine go true 0 0 (fun W hW d bo hd hbo => rsend_ok0 B rb r t j y d bo W hW (by omega) (by omega) e' hy ⟨by omega, by omega⟩ ⟨by omega, by omega⟩ hd hbo (by omega)) (fun W hW => came_zero B b 1 s W hW) (by omega) (fun n z hct => ⟨fun _ => rfl, fun _ => hct.1.1⟩)
   · rcases simCame (B := B) (b := b) (rb := rb) m f hf0 with ⟨cp, cr, h1, h2, hfg, h3⟩ | ⟨h1, h2⟩
     · obtain ⟨ecp, ecr⟩ := h3 C cc
       have hfr := cc.rng f hfg
       have hfb := m.gr f hfg
       have ho1 := cc.ord f hfg t htg
       by_cases hle : x.came ≤ cp
       · refine (send_arg B b s f t cp j x w h.rep hl12.1 e hx (h1 1) hle).mono ?_
         rintro e9 w1 ⟨rfl, rp, f1⟩
         obtain ⟨b1, hr⟩ := h.pairS rp f1 (f := 51) (args := #[.pointer (some ⟨rb, 0, none⟩), .int .i64 f, .int .i64 t]) (v := fT (⟨#[]⟩, 1)) (fun W hW => rsend_arg B rb r f t cr j y W hW (by omega) e' hy hf0 h2 (by omega) (by omega))
         exact ⟨⟨(⟨#[]⟩, 1), by show 0 ≤ 1000; omega⟩, rfl, b1, hr⟩
       · refine go false cp cr (fun W hW d bo hd hbo => rsend_okc B rb r t j y d bo W hW (by omega) (by omega) e' hy ⟨by omega, by omega⟩ ⟨by omega, by omega⟩ hd hbo f cr hf0 ⟨by omega, by omega⟩ h2 (by omega) (by omega)) (h1 1) (by omega) (fun n z hct => ?_)
         have h9 := hct.2 f hfg
         rw [ecp, ecr]
         simpa using h9
     · refine (send_none B b s f t j w h.rep hl12.1 e (h1 1)).mono ?_
       rintro e9 w1 ⟨rfl, rp, f1⟩
       obtain ⟨b1, hr⟩ := h.pairS rp f1 (f := 51) (args := #[.pointer (some ⟨rb, 0, none⟩), .int .i64 f, .int .i64 t]) (v := fT (⟨#[]⟩, 3)) (fun W hW => rsend_nofrom B rb r f t j W hW (by omega) e' hf0 h2)
       exact ⟨⟨(⟨#[]⟩, 3), by show 0 ≤ 1000; omega⟩, rfl, b1, hr⟩
theorem p_send (h : SD O B w db b rb s r) (m : Sim s r q) (f t : Int) :
  Calls Tryz.prog 50 #[.pointer (some ⟨b, 0, none⟩), .int .i64 f, .int .i64 t] w (PC fS O B w db b rb s r q 51 #[.pointer (some ⟨rb, 0, none⟩), .int .i64 f, .int .i64 t]) := (s_send h m f t).mono fun _ _ hp => hp.pc m
end
end Go.Proofs.YthdhegmlknpllaaGreat
