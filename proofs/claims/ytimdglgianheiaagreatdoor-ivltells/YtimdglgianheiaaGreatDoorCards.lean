/-
  DERIVED. GIVEN WITH THE SEED: THE CARDS: each row of YtimdglgianheiaaGreatDoorRows.lean that lists a variable, with what it lists TIED to the program's text (the seventh form; the later family's looks); each row that meets fmt, with fmt's text TOLD by the authors' own Lean function (tested against real Go, not proved from fmt's source: count such statements apart). THE CARD IS WHAT COUNTS. Prove the row's statement (the work); the ties are given (YtimdglgianheiaaGreatDoorTie.lean); close each card by the builder's one call (the guide's Derived/Test/ToyasCard.lean, 'card_holds'). Laid BY PROGRAM, IN A SANDBOX (cutbox-door.mjs). By AI agents, Wed Nov 11 2026. No macro, syntax, notation, axiom, sorry.
-/
import Derived.Test.YtimdglgianheiaaGreatDoorRows
import GoSem.ClaimSeven
namespace Go.Proofs.YtimdglgianheiaaGreatDoor
namespace Rows

/-- THE TIED CARD OF 'overtonelaw05.IvlTells'. -/
def ivlTellsCard : Claim7 := { stood := { row := ivlTellsRow, standIns := [], harness := (true, "98809a45eca6746e0b71c31ceb2f5015c45f5e1f0e56b137dbb983ea668369ec"), looks := false }, kinds := [], alts := [], laidByText := true, laidKinds := [.data, .data], laidTests := true, laidLooks := .later }
def IvlTellsCardSaid : Prop := Claim7.holds Tryz.pinned (.plain (OpenSpec.ofChange ivlTellsSpec)) ivlTellsCard

/-- THE SECOND FORM's CARD OF 'overtonelaw05.IvlTells'. -/
def ivlTellsUptoCard : Claim7 := { stood := { row := ivlTellsUptoRow, standIns := [], harness := (true, "98809a45eca6746e0b71c31ceb2f5015c45f5e1f0e56b137dbb983ea668369ec"), looks := false }, kinds := [], alts := [], laidByText := true, laidKinds := [.data, .data], laidTests := true, laidLooks := .later }
def IvlTellsUptoCardSaid : Prop := Claim7.holds Tryz.pinned (.plain (OpenSpec.upto ivlTellsSpec)) ivlTellsUptoCard
end Rows
end Go.Proofs.YtimdglgianheiaaGreatDoor
