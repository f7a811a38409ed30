/-
  DERIVED. GIVEN WITH THE SEED: THE CARDS: each row of YthdhegmlknpllabGreatDoorRows.lean that lists a variable, with what it lists TIED to the program's text (the seventh form; the later family's looks); each row that meets fmt, with fmt's text TOLD by the authors' own Lean function (tested against real Go, not proved from fmt's source: count such statements apart). THE CARD IS WHAT COUNTS. Prove the row's statement (the work); the ties are given (YthdhegmlknpllabGreatDoorTie.lean); close each card by the builder's one call (the guide's Derived/Test/ToyasCard.lean, 'card_holds'). Laid BY PROGRAM, IN A SANDBOX (cutbox-door.mjs). By AI agents, Wed Nov 11 2026. No macro, syntax, notation, axiom, sorry.
-/
import Derived.Test.YthdhegmlknpllabGreatDoorRows
import GoSem.ClaimSeven
namespace Go.Proofs.YthdhegmlknpllabGreatDoor
namespace Rows

/-- THE TIED CARD OF 'tetherkeep.Based'. -/
def basedCard : Claim7 := { stood := { row := basedRow, standIns := [], harness := (true, "398625ebc73d9db040dbd972af601f772c80e3ff54f728d31b778f730df21331"), looks := false }, kinds := [], alts := [], laidByText := true, laidKinds := [.data, .pinned], laidTests := true, laidLooks := .later }
def BasedCardSaid : Prop := Claim7.holds Tryz.pinned (.plain (OpenSpec.ofChange basedSpec)) basedCard

/-- THE TIED CARD OF 'tetherkeep.Heals'. -/
def healsCard : Claim7 := { stood := { row := healsRow, standIns := [], harness := (true, "398625ebc73d9db040dbd972af601f772c80e3ff54f728d31b778f730df21331"), looks := false }, kinds := [], alts := [], laidByText := true, laidKinds := [.data, .pinned], laidTests := true, laidLooks := .later }
def HealsCardSaid : Prop := Claim7.holds Tryz.pinned (.plain (OpenSpec.ofChange healsSpec)) healsCard

/-- THE TIED CARD OF 'tetherkeep.Prompt'. -/
def promptCard : Claim7 := { stood := { row := promptRow, standIns := [], harness := (true, "398625ebc73d9db040dbd972af601f772c80e3ff54f728d31b778f730df21331"), looks := false }, kinds := [], alts := [], laidByText := true, laidKinds := [.data, .pinned], laidTests := true, laidLooks := .later }
def PromptCardSaid : Prop := Claim7.holds Tryz.pinned (.plain (OpenSpec.ofChange promptSpec)) promptCard

/-- THE SECOND FORM's CARD OF 'tetherkeep.Based'. -/
def basedUptoCard : Claim7 := { stood := { row := basedUptoRow, standIns := [], harness := (true, "398625ebc73d9db040dbd972af601f772c80e3ff54f728d31b778f730df21331"), looks := false }, kinds := [], alts := [], laidByText := true, laidKinds := [.data, .pinned], laidTests := true, laidLooks := .later }
def BasedUptoCardSaid : Prop := Claim7.holds Tryz.pinned (.plain (OpenSpec.upto basedSpec)) basedUptoCard

/-- THE SECOND FORM's CARD OF 'tetherkeep.Heals'. -/
def healsUptoCard : Claim7 := { stood := { row := healsUptoRow, standIns := [], harness := (true, "398625ebc73d9db040dbd972af601f772c80e3ff54f728d31b778f730df21331"), looks := false }, kinds := [], alts := [], laidByText := true, laidKinds := [.data, .pinned], laidTests := true, laidLooks := .later }
def HealsUptoCardSaid : Prop := Claim7.holds Tryz.pinned (.plain (OpenSpec.upto healsSpec)) healsUptoCard

/-- THE SECOND FORM's CARD OF 'tetherkeep.Prompt'. -/
def promptUptoCard : Claim7 := { stood := { row := promptUptoRow, standIns := [], harness := (true, "398625ebc73d9db040dbd972af601f772c80e3ff54f728d31b778f730df21331"), looks := false }, kinds := [], alts := [], laidByText := true, laidKinds := [.data, .pinned], laidTests := true, laidLooks := .later }
def PromptUptoCardSaid : Prop := Claim7.holds Tryz.pinned (.plain (OpenSpec.upto promptSpec)) promptUptoCard
end Rows
end Go.Proofs.YthdhegmlknpllabGreatDoor
