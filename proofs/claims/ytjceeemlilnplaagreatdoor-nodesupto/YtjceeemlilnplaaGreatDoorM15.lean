import Derived.Test.YtjceeemlilnplaaGreatDoorM13
set_option maxRecDepth 100000
set_option maxHeartbeats 12800000
set_option linter.all false
namespace Go.Proofs.YtjceeemlilnplaaGreatDoor
open Go.RowKit Go.Maps Go.MuLone
theorem sa3(a:Addr)(z:Int)(W:World):(Instr.storeAt 3 (.pointer (some a)) (.i z)).run Tryz.prog W=(store a (.i z)).run Tryz.prog W:=by simp[go_sem,Instr.storeAt]
theorem sa9(a:Addr)(z:cC)(W:World):(Instr.storeAt 9 (.pointer (some a)) (.t z)).run Tryz.prog W=(store a (.t z)).run Tryz.prog W:=by simp[go_sem,Instr.storeAt]
theorem UG(a:Addr)(p:Option Addr)(n c:Nat)(W:World):(Instr.storeAt 143 (.pointer (some a)) (.slice p n c)).run Tryz.prog W=(store a (.slice p n c)).run Tryz.prog W:=by simp[go_sem,Instr.storeAt]
theorem UE(a:Addr)(W:World):(Instr.loadAt 30 (.pointer (some a))).run Tryz.prog W=(load a).run Tryz.prog W:=by simp only[Instr.loadAt,Instr.sureAddr,loadVar,Sem.run_bind,Sem.run_pure,Result.andThen_ok,Tryz.isAgg30];rfl
theorem UF(a:Addr)(W:World):(Instr.loadAt 34 (.pointer (some a))).run Tryz.prog W=(load a).run Tryz.prog W:=by simp only[Instr.loadAt,Instr.sureAddr,loadVar,Sem.run_bind,Sem.run_pure,Result.andThen_ok,Tryz.isAgg34];rfl
end Go.Proofs.YtjceeemlilnplaaGreatDoor
