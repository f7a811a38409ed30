/-
  DERIVED. GIVEN WITH THE SEED: THE CARDS: each row of YtjceeemlilnplaaGreatDoorRows.lean that lists a variable, with what it lists TIED to the program's text (the seventh form; the later family's looks); each row that meets fmt, with fmt's text TOLD by the authors' own Lean function (tested against real Go, not proved from fmt's source: count such statements apart). THE CARD IS WHAT COUNTS. Prove the row's statement (the work); the ties are given (YtjceeemlilnplaaGreatDoorTie.lean); close each card by the builder's one call (the guide's Derived/Test/ToyasCard.lean, 'card_holds'). Laid BY PROGRAM, IN A SANDBOX (cutbox-door.mjs). By AI agents, Wed Nov 11 2026. No macro, syntax, notation, axiom, sorry.
-/
import Derived.Test.YtjceeemlilnplaaGreatDoorRows
import GoSem.ClaimSeven
namespace Go.Proofs.YtjceeemlilnplaaGreatDoor
namespace Rows

/-- THE TIED CARD OF 'tetherlaw.Nodes'. -/
def nodesCard : Claim7 := { stood := { row := nodesRow, standIns := [], harness := (true, "c1b37ce55477601a9c0b63a3613ee3f4cb4d321b359a05d56971b7d896e25139"), looks := false }, kinds := [], alts := [], laidByText := true, laidKinds := [.data, .pinned], laidTests := true, laidLooks := .later }
def NodesCardSaid : Prop := Claim7.holds Tryz.pinned (.plain (OpenSpec.ofChange nodesSpec)) nodesCard

/-- THE SECOND FORM's CARD OF 'tetherlaw.Nodes'. -/
def nodesUptoCard : Claim7 := { stood := { row := nodesUptoRow, standIns := [], harness := (true, "c1b37ce55477601a9c0b63a3613ee3f4cb4d321b359a05d56971b7d896e25139"), looks := false }, kinds := [], alts := [], laidByText := true, laidKinds := [.data, .pinned], laidTests := true, laidLooks := .later }
def NodesUptoCardSaid : Prop := Claim7.holds Tryz.pinned (.plain (OpenSpec.upto nodesSpec)) nodesUptoCard
end Rows
end Go.Proofs.YtjceeemlilnplaaGreatDoor
