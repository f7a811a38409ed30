/-
  The walks of Log (35), firstEntry (68), begin (67), redo (69).
-/
import Derived.Test.YthdhegmlknpllaaTk2
import Derived.Test.YthdhegmlknpllaaPur
import Derived.Test.YthdhegmlknpllaaAt
import Derived.Test.YthdhegmlknpllaaFro
namespace Go.Proofs.Ythdhegmlknpllaa
open Go.RowKit Go.Maps Go.MuLone

theorem rd_byte (rb : Nat) (a : UInt8) (l : List UInt8) (W : World) (h : Rdr W rb (ofL (a :: l)) false) (hl : l.length ≤ 1000000) :
    Calls Try.prog 88 #[.pointer (some ⟨rb, 0, none⟩)] W fun e w' => e = .returned (.int .i64 (a.toNat : Int)) ∧ Rdr w' rb (ofL l) false ∧ Fr [rb] W w' := by
  have e1 : rdT (ofL ([a] ++ l)) 1 = ofL [a] := rdT_app [a] l 1 rfl
  have e2 := rdN_app [a] l false 1 rfl
  have := rbyte_any rb (ofL ([a] ++ l)) false W h (by rw [ofL_size]; simp; omega)
  rw [e1, ofL_list] at this
  unfold rdN at e2
  have e3 := congrArg Prod.fst e2
  have e4 := congrArg Prod.snd e2
  simp only at e3 e4
  rw [e3, e4] at this
  simpa [valN] using this
theorem rd_num (rb : Nat) (z : Int) (hz : 0 ≤ z ∧ z < 4294967296) (l : List UInt8) (W : World) (h : Rdr W rb (ofL ((n4 z).list' ++ l)) false) (hl : l.length ≤ 1000000) :
    Calls Try.prog 87 #[.pointer (some ⟨rb, 0, none⟩)] W fun e w' => e = .returned (.int .i64 z) ∧ Rdr w' rb (ofL l) false ∧ Fr [rb] W w' := by
  have e1 : rdT (ofL ((n4 z).list' ++ l)) 4 = ofL (n4 z).list' := rdT_app _ l 4 rfl
  have e2 := rdN_app (n4 z).list' l false 4 rfl
  have := rnumber_any rb (ofL ((n4 z).list' ++ l)) false W h (by rw [ofL_size]; simp [B4.list']; omega)
  rw [e1, ofL_list, val4 z hz] at this
  unfold rdN at e2
  have e3 := congrArg Prod.fst e2
  have e4 := congrArg Prod.snd e2
  simp only at e3 e4
  rw [e3, e4] at this
  exact this
theorem rd_text (rb : Nat) (l : List UInt8) (W : World) (h : Rdr W rb (ofL l) false) (hl : l.length ≤ 1000000) :
    Calls Try.prog 86 #[.pointer (some ⟨rb, 0, none⟩), .int .i64 l.length] W fun e w' => e = .returned (.string (ofL l)) ∧ Rdr w' rb (ofL []) false ∧ Fr [rb] W w' := by
  have e1 : rdT (ofL (l ++ [])) l.length = ofL l := rdT_app _ [] _ rfl
  have e2 := rdN_app l [] false l.length rfl
  rw [List.append_nil] at e1 e2
  have := rtext_any rb (ofL l) false l.length W h hl (by rw [ofL_size]; omega)
  rw [e1] at this
  unfold rdN at e2
  have e3 := congrArg Prod.fst e2
  have e4 := congrArg Prod.snd e2
  simp only at e3 e4
  rw [e3, e4] at this
  exact this
theorem rd_left (rb : Nat) (l : List UInt8) (W : World) (h : Rdr W rb (ofL l) false) :
    Calls Try.prog 92 #[.pointer (some ⟨rb, 0, none⟩)] W fun e w' => e = .returned (.int .i64 l.length) ∧ w' = W := by
  have := left_any rb (ofL l) false W h
  rw [ofL_size] at this
  exact this

set_option maxRecDepth 100000 in
set_option maxHeartbeats 800000 in
theorem log_any (B b : Nat) (s : Sto) (w : World) (h : Rep B w b 0 s) (h0 : 0 < s.log.length) :
    Calls Try.prog 35 #[.pointer (some ⟨b, 0, none⟩)] w fun e w' => e = .returned (.string (ofL s.log)) ∧ Rep B w' b 0 s ∧ Fr (foot b s) w w' := by
  have R1 := h.lock 1
  obtain ⟨w1, hw1⟩ : ∃ w1, w.setCell ⟨b, 0, none⟩ (.int .i32 1) = w1 := ⟨_, rfl⟩
  rw [hw1] at R1
  have HL := lock_free Try.muLib ⟨b, 0, none⟩ w h.cells.1 (h.frozen 0)
  have F1 : Fr (foot b s) w w1 := by rw [← hw1]; exact fr_lock b s w _
  have HF : Hid (w.setCell ⟨b, 0, none⟩ (.int .i32 1) = w1 ∧ Rep B w1 b 1 s ∧ Fr (foot b s) w w1) := ⟨hw1, R1, F1⟩
  obtain ⟨la, lc, hlv⟩ := own_shape R1.lg
  have c9 : w1.cell? ⟨b, 9, none⟩ = some (.slice la s.log.length lc) := by rw [← hlv]; exact R1.cells.2.2.2.2.2.2.2.2
  have hcv : (convert 63 9 (.slice la s.log.length lc)).run Try.prog w1 = .ok (.string (ofL s.log)) w1 := by
    rw [← hlv]
    exact (BRow.own rfl h0 R1.lg).text
  clear h R1 F1 hw1 hlv
  go_enter_defers Try.func35, Try.ntmps35
  go_wp2_with (first
    | (go_at_call 47; refine HL.mono ?_; rintro e w' ⟨rfl, hw'⟩; rw [HF.out.1] at hw'; have hw' := hw'.symm; subst hw'))
  refine leaves_cons (f := 48) (args := #[.pointer (some ⟨b, 0, none⟩)]) (by simp) (by simp [go_sem]) ?_
  refine (unlock_deferred Try.muLib ⟨b, 0, none⟩ .returning _ HF.out.2.1.cells.1 (HF.out.2.1.frozen 0)).mono ?_
  rintro e u' w'' ⟨rfl, rfl, rfl⟩
  exact ⟨_, results_tmp rfl _ _ _, rfl, HF.out.2.1.lock 0, HF.out.2.2.setCell _ (Or.inl (by simp [foot]))⟩

set_option maxHeartbeats 800000 in
theorem first_none (t : ByteArray) (w : World) (h : t.size = 0 ∨ ∃ h : 0 < t.size, t.size ≤ t[0].toNat) :
    Calls Try.prog 68 #[.string t] w fun e w' => e = .returned (.string ⟨#[]⟩) ∧ w' = w := by
  rcases h with h0 | ⟨h0, h1⟩
  · have he : t.toList.isEmpty = true := by
      rw [ByteArray.toList_eq, List.isEmpty_iff, ← List.length_eq_zero_iff, Array.length_toList]
      exact h0
    go_enter Try.func68, Try.ntmps68
    go_wp2
    go_ret
    exact ⟨rfl, rfl⟩
  · have he : t.toList.isEmpty = false := by
      rw [ByteArray.toList_eq, List.isEmpty_eq_false_iff]
      intro e
      have e2 : t.data.toList.length = t.size := Array.length_toList
      rw [e] at e2
      simp at e2
      omega
    have hz : (0 : Int) < (t.size : Int) := by omega
    have hx : t[0].toNat < 256 := UInt8.toNat_lt _
    have hw64 : wrap64 (t[0].toNat : Int) = (t[0].toNat : Int) := wrap64_fit ⟨by omega, by omega⟩
    have h1z : (t.size : Int) ≤ (t[0].toNat : Int) := by omega
    go_enter Try.func68, Try.ntmps68
    go_wp2
    go_ret
    exact ⟨rfl, rfl⟩

set_option maxHeartbeats 800000 in
theorem first_some (t : ByteArray) (k : Nat) (w : World) (h0 : 0 < t.size) (hk : t[0].toNat = k) (h1 : k < t.size) (hb : t.size ≤ 140737488355328) :
    Calls Try.prog 68 #[.string t] w fun e w' => e = .returned (.string (t.extract 0 (1 + k))) ∧ w' = w := by
  have he : t.toList.isEmpty = false := by
    rw [ByteArray.toList_eq, List.isEmpty_eq_false_iff]
    intro e
    have e2 : t.data.toList.length = t.size := Array.length_toList
    rw [e] at e2
    simp at e2
    omega
  have hz : (0 : Int) < (t.size : Int) := by omega
  have h1z : ¬ (t.size : Int) ≤ (k : Int) := by omega
  obtain ⟨k1, hk1⟩ : ∃ k1, 1 + k = k1 := ⟨_, rfl⟩
  have hw : IntKind.i64.wrap (1 + (k : Int)) = (k1 : Int) := by rw [show 1 + (k : Int) = (k1 : Int) by omega]; exact wrap_fit ⟨by omega, by omega⟩
  have hk0 : (0 : Int) ≤ (k1 : Int) := by omega
  have hk2 : (k1 : Int) ≤ (t.size : Int) := by omega
  rw [hk1]
  go_enter Try.func68, Try.ntmps68
  go_wp2
  go_ret
  exact ⟨rfl, rfl⟩
end Go.Proofs.Ythdhegmlknpllaa
