/-
  The walk of Receive (32), where the snapshot is there already.
-/
import Derived.Test.YthdhegmlknpllaaRco
namespace Go.Proofs.Ythdhegmlknpllaa
open Go.RowKit Go.Maps Go.MuLone

set_option maxRecDepth 100000 in
set_option maxHeartbeats 3200000 in
theorem receive_dup (B b : Nat) (s : Sto) (tx : ByteArray) (w : World) (h : Rep B w b 0 s) (f t m : Int) (l : List (Int × B4)) (j : Nat)
    (hp : ∀ W, Calls Try.prog 63 #[.string tx] W fun e w' => ∃ v, e = .returned (.tuple #[.agg #[.int .i64 f, .int .i64 t, .int .i64 m, .int .i64 (s.vol.length : Int), v], .bool true]) ∧ w'.ownsRow W.heap.size 120 5 v l.length (blC l) ∧ Fr [] W w')
    (hs : s.ss.length ≤ 12) (hf : fi (fun y : Sn => y.guid == t) 0 s.ss = (j : Int)) :
    Calls Try.prog 32 #[.pointer (some ⟨b, 0, none⟩), .string tx] w fun e w' => e = .returned (.tuple #[.int .i64 0, .int .i64 7]) ∧ Rep B w' b 0 s ∧ Fr (foot b s) w w' := by
  have R1 := h.lock 1
  obtain ⟨w1, hw1⟩ : ∃ w1, w.setCell ⟨b, 0, none⟩ (.int .i32 1) = w1 := ⟨_, rfl⟩
  rw [hw1] at R1
  have HL := lock_free Try.muLib ⟨b, 0, none⟩ w h.cells.1 (h.frozen 0)
  have F1 : Fr (foot b s) w w1 := by rw [← hw1]; exact fr_lock b s w _
  have HF : Hid (w.setCell ⟨b, 0, none⟩ (.int .i32 1) = w1 ∧ Rep B w1 b 1 s ∧ Fr (foot b s) w w1) := ⟨hw1, R1, F1⟩
  obtain ⟨nv, hnv⟩ : ∃ nv, s.vol.length = nv := ⟨_, rfl⟩
  rw [hnv] at hp
  have HP : Hid (∀ W, Calls Try.prog 63 #[.string tx] W fun e w' => ∃ v, e = .returned (.tuple #[.agg #[.int .i64 f, .int .i64 t, .int .i64 m, .int .i64 (nv : Int), v], .bool true]) ∧ w'.ownsRow W.heap.size 120 5 v l.length (blC l) ∧ Fr [] W w') := hp
  have HAc : Hid (∀ W v, Rep B W b 1 s → (∃ a n c, v = .slice a n c) → Calls Try.prog 64 #[.pointer (some ⟨b, 0, none⟩), .agg #[.int .i64 f, .int .i64 t, .int .i64 m, .int .i64 (nv : Int), v]] W fun e w' => e = .returned (.int .i64 7) ∧ Fr [] W w') := fun W v hW hv => by
    have := accepts_dup B b 1 s f t m v j W hW hs hv hf
    rw [hnv] at this
    exact this
  clear h R1 F1 hw1 hp hf hs hnv
  go_enter_defers Try.func32, Try.ntmps32
  go_wp2_with (first
    | (go_at_call 47; refine HL.mono ?_; rintro e w' ⟨rfl, hw'⟩; rw [HF.out.1] at hw'; have hw' := hw'.symm; subst hw')
    | (go_at_call 63; refine (HP.out _).mono ?_; rintro e w2 ⟨v, rfl, o2, hfr⟩
       obtain ⟨va, vc, hva⟩ := own_shape o2
       subst hva
       have HR2 : Hid (Rep B (w2.alloc (.cells #[.int .i64 f, .int .i64 t, .int .i64 m, .int .i64 (nv : Int), .slice va l.length vc] 116)) b 1 s ∧ Fr (foot b s) w (w2.alloc (.cells #[.int .i64 f, .int .i64 t, .int .i64 m, .int .i64 (nv : Int), .slice va l.length vc] 116))) := ⟨(HF.out.2.1.kept0 hfr).kept0 ((Fr.refl _ _).alloc _), (HF.out.2.2.trans hfr (by simp)).alloc _⟩
       clear hfr o2)
    | (go_at_call 64; refine (HAc.out _ _ HR2.out.1 ⟨_, _, _, rfl⟩).mono ?_; rintro e w3 ⟨rfl, hfr⟩
       have HR3 : Hid (Rep B w3 b 1 s ∧ Fr (foot b s) w w3) := ⟨HR2.out.1.kept0 hfr, HR2.out.2.trans hfr (by simp)⟩
       clear hfr))
  refine leaves_cons (f := 48) (args := #[.pointer (some ⟨b, 0, none⟩)]) (by simp) (by simp [go_sem]) ?_
  refine (unlock_deferred Try.muLib ⟨b, 0, none⟩ .returning _ HR3.out.1.cells.1 (HR3.out.1.frozen 0)).mono ?_
  rintro e u' w'' ⟨rfl, rfl, rfl⟩
  exact ⟨_, results_tmp2 rfl _ _ _, rfl, HR3.out.1.lock 0, HR3.out.2.setCell _ (Or.inl (by simp [foot]))⟩
end Go.Proofs.Ythdhegmlknpllaa
