/-
  DERIVED. GIVEN WITH THE SEED: THE CARDS: each row of YtomdbmjfehoodaaGreatDoorRows.lean that lists a variable, with what it lists TIED to the program's text (the seventh form; the later family's looks); each row that meets fmt, with fmt's text TOLD by the authors' own Lean function (tested against real Go, not proved from fmt's source: count such statements apart). THE CARD IS WHAT COUNTS. Prove the row's statement (the work); the ties are given (YtomdbmjfehoodaaGreatDoorTie.lean); close each card by the builder's one call (the guide's Derived/Test/ToyasCard.lean, 'card_holds'). Laid BY PROGRAM, IN A SANDBOX (cutbox-door.mjs). By AI agents, Wed Nov 11 2026. No macro, syntax, notation, axiom, sorry.
-/
import Derived.Test.YtomdbmjfehoodaaGreatDoorRows
import GoSem.ClaimSeven
namespace Go.Proofs.YtomdbmjfehoodaaGreatDoor
namespace Rows

/-- THE TIED CARD OF 'overtonelaw07.CircTells'. -/
def circTellsCard : Claim7 := { stood := { row := circTellsRow, standIns := [], harness := (true, "2cd12acc60b03931a807608b44cccf3e9d6c258ecadef5819ac16eedae36ae1d"), looks := false }, kinds := [], alts := [], laidByText := true, laidKinds := [.data, .data, .data], laidTests := true, laidLooks := .later }
def CircTellsCardSaid : Prop := Claim7.holds Tryz.pinned (.plain (OpenSpec.ofChange circTellsSpec)) circTellsCard

/-- THE TIED CARD OF 'overtonelaw07.CircWide'. -/
def circWideCard : Claim7 := { stood := { row := circWideRow, standIns := [], harness := (true, "2cd12acc60b03931a807608b44cccf3e9d6c258ecadef5819ac16eedae36ae1d"), looks := false }, kinds := [], alts := [], laidByText := true, laidKinds := [.data, .data, .data], laidTests := true, laidLooks := .later }
def CircWideCardSaid : Prop := Claim7.holds Tryz.pinned (.plain (OpenSpec.ofChange circWideSpec)) circWideCard

/-- THE TIED CARD OF 'overtonelaw07.CircOne'. -/
def circOneCard : Claim7 := { stood := { row := circOneRow, standIns := [], harness := (true, "2cd12acc60b03931a807608b44cccf3e9d6c258ecadef5819ac16eedae36ae1d"), looks := false }, kinds := [], alts := [], laidByText := true, laidKinds := [.data, .data, .data], laidTests := true, laidLooks := .later }
def CircOneCardSaid : Prop := Claim7.holds Tryz.pinned (.plain (OpenSpec.ofChange circOneSpec)) circOneCard

/-- THE TIED CARD OF 'overtonelaw07.CircTurns'. -/
def circTurnsCard : Claim7 := { stood := { row := circTurnsRow, standIns := [], harness := (true, "2cd12acc60b03931a807608b44cccf3e9d6c258ecadef5819ac16eedae36ae1d"), looks := false }, kinds := [], alts := [], laidByText := true, laidKinds := [.data, .data, .data], laidTests := true, laidLooks := .later }
def CircTurnsCardSaid : Prop := Claim7.holds Tryz.pinned (.plain (OpenSpec.ofChange circTurnsSpec)) circTurnsCard

/-- THE TIED CARD OF 'overtonelaw07.CircSum'. -/
def circSumCard : Claim7 := { stood := { row := circSumRow, standIns := [], harness := (true, "2cd12acc60b03931a807608b44cccf3e9d6c258ecadef5819ac16eedae36ae1d"), looks := false }, kinds := [], alts := [], laidByText := true, laidKinds := [.data, .data, .data], laidTests := true, laidLooks := .later }
def CircSumCardSaid : Prop := Claim7.holds Tryz.pinned (.plain (OpenSpec.ofChange circSumSpec)) circSumCard

/-- THE TIED CARD OF 'overtonelaw07.CircMore'. -/
def circMoreCard : Claim7 := { stood := { row := circMoreRow, standIns := [], harness := (true, "2cd12acc60b03931a807608b44cccf3e9d6c258ecadef5819ac16eedae36ae1d"), looks := false }, kinds := [], alts := [], laidByText := true, laidKinds := [.data, .data, .data], laidTests := true, laidLooks := .later }
def CircMoreCardSaid : Prop := Claim7.holds Tryz.pinned (.plain (OpenSpec.ofChange circMoreSpec)) circMoreCard

/-- THE SECOND FORM's CARD OF 'overtonelaw07.CircTells'. -/
def circTellsUptoCard : Claim7 := { stood := { row := circTellsUptoRow, standIns := [], harness := (true, "2cd12acc60b03931a807608b44cccf3e9d6c258ecadef5819ac16eedae36ae1d"), looks := false }, kinds := [], alts := [], laidByText := true, laidKinds := [.data, .data, .data], laidTests := true, laidLooks := .later }
def CircTellsUptoCardSaid : Prop := Claim7.holds Tryz.pinned (.plain (OpenSpec.upto circTellsSpec)) circTellsUptoCard

/-- THE SECOND FORM's CARD OF 'overtonelaw07.CircWide'. -/
def circWideUptoCard : Claim7 := { stood := { row := circWideUptoRow, standIns := [], harness := (true, "2cd12acc60b03931a807608b44cccf3e9d6c258ecadef5819ac16eedae36ae1d"), looks := false }, kinds := [], alts := [], laidByText := true, laidKinds := [.data, .data, .data], laidTests := true, laidLooks := .later }
def CircWideUptoCardSaid : Prop := Claim7.holds Tryz.pinned (.plain (OpenSpec.upto circWideSpec)) circWideUptoCard

/-- THE SECOND FORM's CARD OF 'overtonelaw07.CircOne'. -/
def circOneUptoCard : Claim7 := { stood := { row := circOneUptoRow, standIns := [], harness := (true, "2cd12acc60b03931a807608b44cccf3e9d6c258ecadef5819ac16eedae36ae1d"), looks := false }, kinds := [], alts := [], laidByText := true, laidKinds := [.data, .data, .data], laidTests := true, laidLooks := .later }
def CircOneUptoCardSaid : Prop := Claim7.holds Tryz.pinned (.plain (OpenSpec.upto circOneSpec)) circOneUptoCard

/-- THE SECOND FORM's CARD OF 'overtonelaw07.CircTurns'. -/
def circTurnsUptoCard : Claim7 := { stood := { row := circTurnsUptoRow, standIns := [], harness := (true, "2cd12acc60b03931a807608b44cccf3e9d6c258ecadef5819ac16eedae36ae1d"), looks := false }, kinds := [], alts := [], laidByText := true, laidKinds := [.data, .data, .data], laidTests := true, laidLooks := .later }
def CircTurnsUptoCardSaid : Prop := Claim7.holds Tryz.pinned (.plain (OpenSpec.upto circTurnsSpec)) circTurnsUptoCard

/-- THE SECOND FORM's CARD OF 'overtonelaw07.CircSum'. -/
def circSumUptoCard : Claim7 := { stood := { row := circSumUptoRow, standIns := [], harness := (true, "2cd12acc60b03931a807608b44cccf3e9d6c258ecadef5819ac16eedae36ae1d"), looks := false }, kinds := [], alts := [], laidByText := true, laidKinds := [.data, .data, .data], laidTests := true, laidLooks := .later }
def CircSumUptoCardSaid : Prop := Claim7.holds Tryz.pinned (.plain (OpenSpec.upto circSumSpec)) circSumUptoCard

/-- THE SECOND FORM's CARD OF 'overtonelaw07.CircMore'. -/
def circMoreUptoCard : Claim7 := { stood := { row := circMoreUptoRow, standIns := [], harness := (true, "2cd12acc60b03931a807608b44cccf3e9d6c258ecadef5819ac16eedae36ae1d"), looks := false }, kinds := [], alts := [], laidByText := true, laidKinds := [.data, .data, .data], laidTests := true, laidLooks := .later }
def CircMoreUptoCardSaid : Prop := Claim7.holds Tryz.pinned (.plain (OpenSpec.upto circMoreSpec)) circMoreUptoCard
end Rows
end Go.Proofs.YtomdbmjfehoodaaGreatDoor
