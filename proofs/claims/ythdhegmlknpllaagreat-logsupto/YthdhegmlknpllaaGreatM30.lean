import Derived.Test.YthdhegmlknpllaaGreatM28
namespace Go.Proofs.YthdhegmlknpllaaGreat
open Go.RowKit Go.Maps Go.MuLone
theorem sa3 (a : Addr) (z : Int) (W : World) : (Instr.storeAt 3 (.pointer (some a)) (.int .i64 z)).run Tryz.prog W = (store a (.int .i64 z)).run Tryz.prog W := by
 simp [go_sem, Instr.storeAt]
theorem sa9 (a : Addr) (z : ByteArray) (W : World) : (Instr.storeAt 9 (.pointer (some a)) (.string z)).run Tryz.prog W = (store a (.string z)).run Tryz.prog W := by
 simp [go_sem, Instr.storeAt]
theorem sa83 (a : Addr) (p : Option Addr) (n c : Nat) (W : World) : (Instr.storeAt 83 (.pointer (some a)) (.slice p n c)).run Tryz.prog W = (store a (.slice p n c)).run Tryz.prog W := by
 simp [go_sem, Instr.storeAt]
theorem la39 (a : Addr) (W : World) : (Instr.loadAt 39 (.pointer (some a))).run Tryz.prog W = (load a).run Tryz.prog W := by
 simp only [Instr.loadAt, Instr.sureAddr, loadVar, Sem.run_bind, Sem.run_pure, Result.andThen_ok, Tryz.isAgg39]
 rfl
theorem la28 (a : Addr) (W : World) : (Instr.loadAt 28 (.pointer (some a))).run Tryz.prog W = (load a).run Tryz.prog W := by
 simp only [Instr.loadAt, Instr.sureAddr, loadVar, Sem.run_bind, Sem.run_pure, Result.andThen_ok, Tryz.isAgg28]
 rfl
end Go.Proofs.YthdhegmlknpllaaGreat
