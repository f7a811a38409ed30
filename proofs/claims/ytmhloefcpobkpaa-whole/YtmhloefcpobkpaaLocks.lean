/-
  The numbers under which this dump holds the library's lock, and that it holds it.
-/
import Derived.Test.YtmhloefcpobkpaaProg
import Derived.Conc.RwLib
import Derived.Conc.MuData
import Derived.KernelRfl
namespace Go.Proofs
abbrev Try.muLink : Go.Conc.Locks.MuLink := { lock := 38, unlock := 39, ilock := 55, iunlock := 56, lockSlow := 71, unlockSlow := 74, disable := 67, enable := 69, acquire := 70, relMerge := 72, cas32 := 68, add32 := 73, tMutex := 79, tIMutex := 77, tPMutex := 109, tPIMutex := 119, tPI32 := 121, tUP := 123, tNoCopy := 74, tU32 := 75 }
theorem Try.muLib : Go.Conc.Locks.MuLib Try.prog Try.muLink :=
  ⟨Try.func38, Try.func39, Try.func55, Try.func56, Try.func67, Try.func69, Try.func70, Try.func72, Try.func68, Try.func73, Try.underlying77, Try.runUnderlying77, Try.sizeOf77, Try.isAgg77, Try.zeroValue77, Try.underlying79, Try.runUnderlying79, Try.sizeOf79, Try.isAgg79, Try.zeroValue79, Try.underlying109, Try.runUnderlying109, Try.sizeOf109, Try.isAgg109, Try.zeroValue109, Try.underlying119, Try.runUnderlying119, Try.sizeOf119, Try.isAgg119, Try.zeroValue119, Try.underlying121, Try.runUnderlying121, Try.sizeOf121, Try.isAgg121, Try.zeroValue121, Try.underlying123, Try.runUnderlying123, Try.sizeOf123, Try.isAgg123, Try.zeroValue123, Try.underlying74, Try.runUnderlying74, Try.sizeOf74, Try.isAgg74, Try.zeroValue74, Try.underlying21, Try.runUnderlying21, Try.sizeOf21, Try.isAgg21, Try.zeroValue21, (by kernel_rfl)⟩
end Go.Proofs
