import Derived.Test.YthdhegmlknpllabGreatDoorProg
import Derived.Conc.RwLib
import Derived.Conc.MuData
import Derived.KernelRfl
/-
  The numbers under which this dump holds the library's lock, and that it holds it.
-/
namespace Go.Proofs
abbrev Tryz.muLink : Go.Conc.Locks.MuLink := { lock := 30, unlock := 31, ilock := 47, iunlock := 48, lockSlow := 77, unlockSlow := 80, disable := 73, enable := 75, acquire := 76, relMerge := 78, cas32 := 74, add32 := 79, tMutex := 80, tIMutex := 78, tPMutex := 122, tPIMutex := 149, tPI32 := 151, tUP := 153, tNoCopy := 75, tU32 := 76 }
theorem Tryz.muLib : Go.Conc.Locks.MuLib Tryz.prog Tryz.muLink :=
  ⟨Tryz.func30, Tryz.func31, Tryz.func47, Tryz.func48, Tryz.func73, Tryz.func75, Tryz.func76, Tryz.func78, Tryz.func74, Tryz.func79, Tryz.underlying78, Tryz.runUnderlying78, Tryz.sizeOf78, Tryz.isAgg78, Tryz.zeroValue78, Tryz.underlying80, Tryz.runUnderlying80, Tryz.sizeOf80, Tryz.isAgg80, Tryz.zeroValue80, Tryz.underlying122, Tryz.runUnderlying122, Tryz.sizeOf122, Tryz.isAgg122, Tryz.zeroValue122, Tryz.underlying149, Tryz.runUnderlying149, Tryz.sizeOf149, Tryz.isAgg149, Tryz.zeroValue149, Tryz.underlying151, Tryz.runUnderlying151, Tryz.sizeOf151, Tryz.isAgg151, Tryz.zeroValue151, Tryz.underlying153, Tryz.runUnderlying153, Tryz.sizeOf153, Tryz.isAgg153, Tryz.zeroValue153, Tryz.underlying75, Tryz.runUnderlying75, Tryz.sizeOf75, Tryz.isAgg75, Tryz.zeroValue75, Tryz.underlying21, Tryz.runUnderlying21, Tryz.sizeOf21, Tryz.isAgg21, Tryz.zeroValue21, (by kernel_rfl)⟩
end Go.Proofs
