/-
  The walks of tetherkeep's volume (36), is (18).
-/
import Derived.Test.YthdhegmlknpllaaPic
namespace Go.Proofs.Ythdhegmlknpllaa
open Go.RowKit Go.Maps Go.MuLone

theorem info9 : (Try.prog.info? 9).map (fun i => (i.zero, i.size, i.bytes)) = some (some (.string ⟨#[]⟩), 1, 16) := by kernel_rfl

def strs (l : List Ct) : List Value := l.map fun c => c.x.str
theorem strs_take (l : List Ct) (k : Nat) (h : k < l.length) : strs (l.take (k + 1)) = strs (l.take k) ++ [l[k].x.str] := by
  unfold strs
  rw [List.take_succ_eq_append_getElem h, List.map_append]
  rfl

/-- A row that lies behind the store is kept while the store is asked. -/
theorem own_fr {w w' : World} {base : Nat} {e : TypeId} {size : Nat} {v : Value} {n : Nat} {xs : List Value} {F : List Nat} (h : w.ownsRow base e size v n xs) (hf : Fr F w w') (hn : ∀ k, v.ownBlock = some k → k ∉ F) : w'.ownsRow base e size v n xs :=
  own_of_block h (fun k hk => hf.block k (h.lt k hk).2 (hn k hk))

set_option maxRecDepth 100000 in
set_option maxHeartbeats 1600000 in
theorem volume_any (B b : Nat) (s : Sto) (w : World) (h : Rep B w b 0 s) (hv : s.vol.length ≤ 16) :
    Calls Try.prog 33 #[.pointer (some ⟨b, 0, none⟩), .int .i64 s.vol.length] w fun e w' => ∃ v, e = .returned (.tuple #[v, .bool true]) ∧ w'.ownsRow w.heap.size 9 1 v s.vol.length (strs s.vol) ∧ Rep B w' b 0 s ∧ Fr (foot b s) w w' := by
  obtain ⟨i0, hi, hz0, hz1, hz2⟩ := info_parts info9
  obtain ⟨n, hn⟩ : ∃ n, s.vol.length = n := ⟨_, rfl⟩
  have HN : Hid (s.vol.length = n) := hn
  have HR0 : Hid (Rep B w b 0 s) := h
  rw [hn] at hv ⊢
  clear h hn
  go_enter Try.func33, Try.ntmps33
  go_wp2
  go_loopw [6, 7] (fun vg i wr => ∃ k : Nat, k ≤ n ∧ i = .int .i64 k ∧ Hid (Rep B wr b 0 s ∧ Fr (foot b s) w wr ∧ wr.ownsRow w.heap.size 9 1 vg k (strs (s.vol.take k)))) (fun _ i _ => n - (intOf i).toNat)
  case atStart => exact ⟨0, Nat.zero_le _, rfl, HR0.out, Fr.refl _ _, World.ownsRow_nil _ _ _ _⟩
  case round =>
    obtain ⟨k, hk, rfl, HK⟩ := hrel
    obtain ⟨W3, hW3⟩ : ∃ W3, W3 = wr := ⟨_, rfl⟩
    subst hW3
    obtain ⟨ao, cap, hsh⟩ := own_shape HK.out.2.2
    subst hsh
    by_cases hlt : k < n
    · have hlt' : k < s.vol.length := by rw [HN.out]; exact hlt
      have HRd := read_ok B b s k W3 HK.out.1 hlt'
      obtain ⟨x, hx⟩ : ∃ x, s.vol[k].x = x := ⟨_, rfl⟩
      have HX : Hid (s.vol[k].x = x) := hx
      rw [hx] at HRd
      have hxs : x.str = .string ⟨#[x.a, x.b, x.c, x.d]⟩ := rfl
      rw [hxs] at HRd
      clear hx hxs
      have hltz : (k : Int) < (n : Int) := by omega
      go_wp2_with (first
        | (go_at_call 65; refine HRd.mono ?_; rintro e w4 ⟨rfl, r4, f4⟩
           have HK4 : Hid (Rep B w4 b 0 s ∧ Fr (foot b s) w w4 ∧ w4.ownsRow w.heap.size 9 1 (.slice ao k cap) k (strs (s.vol.take k))) := ⟨r4, HK.out.2.1.trans f4 (fun j hj => Or.inl hj), own_fr HK.out.2.2 f4 (fun j hj hm => by
             have h1 := (HK.out.2.2.lt j hj).1
             have h2 := (HR0.out.lt j hm).2
             omega)⟩
           clear r4 f4 HK)
        | (at_builtin; refine wpList_append_own _ rfl _ _ 44 rfl w.heap.size 9 i0 _ 1 16 Try.underlying44 hi hz0 hz1 hz2 rfl (by omega) (.slice ao k cap) k (strs (s.vol.take k)) rfl (HK4.out.2.2.alloc _) ⟨w4.heap.size, 0, none⟩ 1 1 [.string ⟨#[x.a, x.b, x.c, x.d]⟩] rfl (by simp) (World.news_of_block (cs := #[.string ⟨#[x.a, x.b, x.c, x.d]⟩]) (t := 9) (fr := (0, 0)) (heap_alloc_new w4 _)) (by simp [Value.oneCell']) (by unfold maxLen; omega) (by omega) (by have := HK4.out.2.1.size; simp; omega) ?_; intro v5 w5 hown5 hgrow5 hne5; clear hne5))
      have HK5 : Hid (Rep B w5 b 0 s ∧ Fr (foot b s) w w5 ∧ w5.ownsRow w.heap.size 9 1 v5 (k + 1) (strs (s.vol.take (k + 1)))) := by
        have hge : ∀ j, (Value.slice ao k cap).ownBlock = some j → w.heap.size ≤ j := fun j hj => (HK4.out.2.2.lt j hj).1
        have f5 : Fr (Value.slice ao k cap).ownBlock.toList w4 w5 := ((Fr.refl _ _).alloc _).grown hgrow5 (fun j hj => Or.inl (by simp [hj]))
        refine ⟨HK4.out.1.kept f5 (fun j hj hm => ?_), HK4.out.2.1.trans f5 (fun j hj => Or.inr (hge j (by simpa using hj))), ?_⟩
        · have h1 := hge j (by simpa using hm)
          have h2 := (HR0.out.lt j hj).2
          omega
        · rw [strs_take s.vol k hlt', HX.out]
          exact hown5
      clear hown5 hgrow5 HK4
      go_wp2
      go_roundw
      case rel => exact ⟨k + 1, by omega, by go_num, HK5⟩
      case measure => simp [intOf]; omega
    · have hkk : k = n := by omega
      subst hkk
      go_wp2
      go_ret2
      refine ⟨_, rfl, ?_, HK.out.1, HK.out.2.1⟩
      have := HK.out.2.2
      rw [← HN.out, List.take_length] at this
      rw [HN.out] at this
      exact this

/-- An image: its snapshot's guid, its time, its blocks. -/
def imgv (g t : Int) (v : Value) : Value := .agg #[.int .i64 g, .int .i64 t, v]

set_option maxRecDepth 100000 in
set_option maxHeartbeats 1600000 in
theorem is_any (B b : Nat) (s : Sto) (g t : Int) (v : Value) (base : Nat) (w : World) (h : Rep B w b 0 s) (hl : s.ss.length ≤ 12) (hg : In64 g) (hx : ∃ x ∈ s.ss, (x.guid == g) = true) (hv : s.vol.length ≤ 16)
    (ho : w.ownsRow base 9 1 v s.vol.length (strs ((List.range s.vol.length).map fun j : Nat => s.th g (j : Int)))) (hn : ∀ k, v.ownBlock = some k → k ∉ foot b s) :
    Calls Try.prog 21 #[imgv g t v, .pointer (some ⟨b, 0, none⟩)] w fun e w' => e = .returned (.bool true) ∧ Rep B w' b 0 s ∧ Fr (foot b s) w w' := by
  obtain ⟨ao, cap, hsh⟩ := own_shape ho
  subst hsh
  obtain ⟨n, hn'⟩ : ∃ n, s.vol.length = n := ⟨_, rfl⟩
  have HN : Hid (s.vol.length = n) := hn'
  have HO : Hid (Rep B w b 0 s ∧ w.ownsRow base 9 1 (.slice ao n cap) n (strs ((List.range n).map fun j : Nat => s.th g (j : Int))) ∧ ∀ k, (Value.slice ao n cap).ownBlock = some k → k ∉ foot b s) := ⟨h, by rw [hn'] at ho; exact ho, by rw [hn'] at hn; exact hn⟩
  have HA : Hid (∀ (W : World) (k : Nat), Rep B W b 0 s → k < n → Calls Try.prog 46 #[.pointer (some ⟨b, 0, none⟩), .int .i64 g, .int .i64 k] W fun e w' => e = .returned (.tuple #[.string ⟨#[(s.th g k).x.a, (s.th g k).x.b, (s.th g k).x.c, (s.th g k).x.d]⟩, .int .i64 0]) ∧ Rep B w' b 0 s ∧ Fr (foot b s) W w') := fun W k hW hk => at_ok B b s g k W hW (by omega) hg hx (by omega) hv
  rw [hn'] at hv ⊢
  unfold imgv
  obtain ⟨bx, hbx⟩ : ∃ bx, w.heap.size = bx := ⟨_, rfl⟩
  obtain ⟨w0, hw0⟩ : ∃ w0, w.alloc (.cells #[.int .i64 g, .int .i64 t, .slice ao n cap] 46) = w0 := ⟨_, rfl⟩
  have b0 : w0.heap[bx]? = some (.cells #[.int .i64 g, .int .i64 t, .slice ao n cap] 46 (0, 0)) := by rw [← hw0, ← hbx]; exact heap_alloc_new w _
  have HB : Hid (w0.heap[bx]? = some (.cells #[.int .i64 g, .int .i64 t, .slice ao n cap] 46 (0, 0)) ∧ Rep B w0 b 0 s ∧ Fr (foot b s) w w0 ∧ w0.ownsRow base 9 1 (.slice ao n cap) n (strs ((List.range n).map fun j : Nat => s.th g (j : Int))) ∧ bx ∉ foot b s) := ⟨b0, by rw [← hw0]; exact h.kept0 ((Fr.refl _ _).alloc _), by rw [← hw0]; exact (Fr.refl _ _).alloc _, by rw [← hw0]; exact HO.out.2.1.alloc _, fun hm => by have := (h.lt bx hm).2; omega⟩
  have hw0' : w.alloc (.cells #[.int .i64 g, .int .i64 t, .slice ao n cap] 46) = w0 := hw0
  have e0 : w0.cell? ⟨bx, 0, none⟩ = some (.int .i64 g) := by rw [cell_of b0]; rfl
  have e2 : w0.cell? ⟨bx, 2, none⟩ = some (.slice ao n cap) := by rw [cell_of b0]; rfl
  clear h ho hn hn' hx b0 hw0 hl
  go_enter Try.func21, Try.ntmps21
  go_wp2
  go_loopw [5] (fun i wr => ∃ k : Nat, k ≤ n ∧ i = .int .i64 k ∧ Hid (wr.heap[bx]? = some (.cells #[.int .i64 g, .int .i64 t, .slice ao n cap] 46 (0, 0)) ∧ Rep B wr b 0 s ∧ Fr (foot b s) w wr ∧ wr.ownsRow base 9 1 (.slice ao n cap) n (strs ((List.range n).map fun j : Nat => s.th g (j : Int))))) (fun i _ => n - (intOf i).toNat)
  case atStart => exact ⟨0, Nat.zero_le _, rfl, HB.out.1, HB.out.2.1, HB.out.2.2.1, HB.out.2.2.2.1⟩
  case round =>
    obtain ⟨k, hk, rfl, HK⟩ := hrel
    obtain ⟨W3, hW3⟩ : ∃ W3, W3 = wr := ⟨_, rfl⟩
    subst hW3
    clear e0 e2 hw0'
    have e0 : W3.cell? ⟨bx, 0, none⟩ = some (.int .i64 g) := by rw [cell_of HK.out.1]; rfl
    have e2 : W3.cell? ⟨bx, 2, none⟩ = some (.slice ao n cap) := by rw [cell_of HK.out.1]; rfl
    by_cases hlt : k < n
    · have HC := HA.out W3 k HK.out.2.1 hlt
      obtain ⟨sg, hao, hcap, hc⟩ := own_addr HK.out.2.2.2 (by omega)
      have hd : W3.cell? ⟨sg, k, none⟩ = some (.string ⟨#[(s.th g k).x.a, (s.th g k).x.b, (s.th g k).x.c, (s.th g k).x.d]⟩) := by
        rw [hc k (by omega)]
        simp [strs, hlt, B4.str]
      obtain ⟨x, hx⟩ : ∃ x, (⟨#[(s.th g k).x.a, (s.th g k).x.b, (s.th g k).x.c, (s.th g k).x.d]⟩ : ByteArray) = x := ⟨_, rfl⟩
      rw [hx] at hd HC
      clear hx hc
      subst hao
      have hltz : (k : Int) < (n : Int) := by omega
      have lsg := World.block_lt_of_cell? _ _ hd
      go_wp2_with (first
        | (go_at_call 46; refine HC.mono ?_; rintro e w4 ⟨rfl, r4, f4⟩
           have HK4 : Hid (w4.heap[bx]? = some (.cells #[.int .i64 g, .int .i64 t, .slice (some ⟨sg, 0, none⟩) n cap] 46 (0, 0)) ∧ Rep B w4 b 0 s ∧ Fr (foot b s) w w4 ∧ w4.ownsRow base 9 1 (.slice (some ⟨sg, 0, none⟩) n cap) n (strs ((List.range n).map fun j : Nat => s.th g (j : Int)))) := ⟨by rw [f4.block bx (Array.getElem?_eq_some_iff.1 HK.out.1).1 HB.out.2.2.2.2]; exact HK.out.1, r4, HK.out.2.2.1.trans f4 (fun j hj => Or.inl hj), own_fr HK.out.2.2.2 f4 HO.out.2.2⟩
           have e2' : w4.cell? ⟨bx, 2, none⟩ = some (.slice (some ⟨sg, 0, none⟩) n cap) := by rw [cell_of HK4.out.1]; rfl
           have hd' : w4.cell? ⟨sg, k, none⟩ = some (.string x) := (World.cell?_of_block (f4.block sg lsg (HO.out.2.2 sg rfl))).trans hd
           clear r4 f4))
      go_roundw
      case rel => exact ⟨k + 1, by omega, by go_num, HK4⟩
      case measure => simp [intOf]; omega
    · have hkk : k = n := by omega
      subst hkk
      go_wp2
      go_ret
      exact ⟨rfl, HK.out.2.1, HK.out.2.2.1⟩
end Go.Proofs.Ythdhegmlknpllaa
