/-
  DERIVED. GIVEN WITH THE SEED: THE CARDS: each row of YtikbfhhkkplpbaaDoorRows.lean that lists a variable, with what it lists TIED to the program's text (the seventh form; the later family's looks); each row that meets fmt, with fmt's text TOLD by the authors' own Lean function (tested against real Go, not proved from fmt's source: count such statements apart). THE CARD IS WHAT COUNTS. Prove the row's statement (the work); the ties are given (YtikbfhhkkplpbaaDoorTie.lean); close each card by the builder's one call (the guide's Derived/Test/ToyasCard.lean, 'card_holds'). Laid BY PROGRAM, IN A SANDBOX (cutbox-door.mjs). By AI agents, Wed Nov 11 2026. No macro, syntax, notation, axiom, sorry.
-/
import Derived.Test.YtikbfhhkkplpbaaDoorRows
import GoSem.ClaimSeven
namespace Go.Proofs.YtikbfhhkkplpbaaDoor
namespace Rows

/-- THE TIED CARD OF 'tetherlaw.Grids'. -/
def gridsCard : Claim7 := { stood := { row := gridsRow, standIns := [], harness := (true, "f34554c2225b9ab41cc0861b3577b5d3b82a9a5f31f6fe92ebb7c66bbf78673a"), looks := false }, kinds := [], alts := [], laidByText := true, laidKinds := [.data, .pinned], laidTests := true, laidLooks := .later }
def GridsCardSaid : Prop := Claim7.holds Tryd.pinned (.plain (OpenSpec.ofChange gridsSpec)) gridsCard

/-- THE SECOND FORM's CARD OF 'tetherlaw.Grids'. -/
def gridsUptoCard : Claim7 := { stood := { row := gridsUptoRow, standIns := [], harness := (true, "f34554c2225b9ab41cc0861b3577b5d3b82a9a5f31f6fe92ebb7c66bbf78673a"), looks := false }, kinds := [], alts := [], laidByText := true, laidKinds := [.data, .pinned], laidTests := true, laidLooks := .later }
def GridsUptoCardSaid : Prop := Claim7.holds Tryd.pinned (.plain (OpenSpec.upto gridsSpec)) gridsUptoCard
end Rows
end Go.Proofs.YtikbfhhkkplpbaaDoor
