/-
  The numbers under which this dump holds the library's lock, and that it holds it.
-/
import Derived.Test.YthdhegmlknpllaaProg
import Derived.Conc.RwLib
import Derived.Conc.MuData
import Derived.KernelRfl
namespace Go.Proofs
abbrev Try.muLink : Go.Conc.Locks.MuLink := { lock := 47, unlock := 48, ilock := 74, iunlock := 75, lockSlow := 100, unlockSlow := 103, disable := 96, enable := 98, acquire := 99, relMerge := 101, cas32 := 97, add32 := 102, tMutex := 87, tIMutex := 85, tPMutex := 133, tPIMutex := 145, tPI32 := 147, tUP := 149, tNoCopy := 82, tU32 := 83 }
theorem Try.muLib : Go.Conc.Locks.MuLib Try.prog Try.muLink :=
  ⟨Try.func47, Try.func48, Try.func74, Try.func75, Try.func96, Try.func98, Try.func99, Try.func101, Try.func97, Try.func102, Try.underlying85, Try.runUnderlying85, Try.sizeOf85, Try.isAgg85, Try.zeroValue85, Try.underlying87, Try.runUnderlying87, Try.sizeOf87, Try.isAgg87, Try.zeroValue87, Try.underlying133, Try.runUnderlying133, Try.sizeOf133, Try.isAgg133, Try.zeroValue133, Try.underlying145, Try.runUnderlying145, Try.sizeOf145, Try.isAgg145, Try.zeroValue145, Try.underlying147, Try.runUnderlying147, Try.sizeOf147, Try.isAgg147, Try.zeroValue147, Try.underlying149, Try.runUnderlying149, Try.sizeOf149, Try.isAgg149, Try.zeroValue149, Try.underlying82, Try.runUnderlying82, Try.sizeOf82, Try.isAgg82, Try.zeroValue82, Try.underlying21, Try.runUnderlying21, Try.sizeOf21, Try.isAgg21, Try.zeroValue21, (by kernel_rfl)⟩
end Go.Proofs
