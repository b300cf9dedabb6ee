/-
  DERIVED. GIVEN WITH THE SEED: THE CARDS: each row of YtjnnodbejnmkmaaDoorRows.lean that lists a variable, with what it lists TIED to the program's text (the seventh form; the later family's looks); each row that meets fmt, with fmt's text TOLD by the authors' own Lean function (tested against real Go, not proved from fmt's source: count such statements apart). THE CARD IS WHAT COUNTS. Prove the row's statement (the work); the ties are given (YtjnnodbejnmkmaaDoorTie.lean); close each card by the builder's one call (the guide's Derived/Test/ToyasCard.lean, 'card_holds'). Laid BY PROGRAM, IN A SANDBOX (cutbox-door.mjs). By AI agents, Wed Nov 11 2026. No macro, syntax, notation, axiom, sorry.
-/
import Derived.Test.YtjnnodbejnmkmaaDoorRows
import GoSem.ClaimSeven
namespace Go.Proofs.YtjnnodbejnmkmaaDoor
namespace Rows

/-- THE TIED CARD OF 'overtonelaw02.DyaTells'. -/
def dyaTellsCard : Claim7 := { stood := { row := dyaTellsRow, standIns := [], harness := (true, "5757d0038110da0a5eca4085a9e0fd9c30c06a5da9ab377bec593d071c3e7a87"), looks := false }, kinds := [], alts := [], laidByText := true, laidKinds := [.data, .data], laidTests := true, laidLooks := .later }
def DyaTellsCardSaid : Prop := Claim7.holds Tryd.pinned (.plain (OpenSpec.ofChange dyaTellsSpec)) dyaTellsCard

/-- THE TIED CARD OF 'overtonelaw02.DyaRing'. -/
def dyaRingCard : Claim7 := { stood := { row := dyaRingRow, standIns := [], harness := (true, "5757d0038110da0a5eca4085a9e0fd9c30c06a5da9ab377bec593d071c3e7a87"), looks := false }, kinds := [], alts := [], laidByText := true, laidKinds := [.data, .data], laidTests := true, laidLooks := .later }
def DyaRingCardSaid : Prop := Claim7.holds Tryd.pinned (.plain (OpenSpec.ofChange dyaRingSpec)) dyaRingCard

/-- THE TIED CARD OF 'overtonelaw02.DyaOrder'. -/
def dyaOrderCard : Claim7 := { stood := { row := dyaOrderRow, standIns := [], harness := (true, "5757d0038110da0a5eca4085a9e0fd9c30c06a5da9ab377bec593d071c3e7a87"), looks := false }, kinds := [], alts := [], laidByText := true, laidKinds := [.data, .data], laidTests := true, laidLooks := .later }
def DyaOrderCardSaid : Prop := Claim7.holds Tryd.pinned (.plain (OpenSpec.ofChange dyaOrderSpec)) dyaOrderCard

/-- THE TIED CARD OF 'overtonelaw02.DyaCut'. -/
def dyaCutCard : Claim7 := { stood := { row := dyaCutRow, standIns := [], harness := (true, "5757d0038110da0a5eca4085a9e0fd9c30c06a5da9ab377bec593d071c3e7a87"), looks := false }, kinds := [], alts := [], laidByText := true, laidKinds := [.data, .data], laidTests := true, laidLooks := .later }
def DyaCutCardSaid : Prop := Claim7.holds Tryd.pinned (.plain (OpenSpec.ofChange dyaCutSpec)) dyaCutCard

/-- THE TIED CARD OF 'overtonelaw02.DyaShift'. -/
def dyaShiftCard : Claim7 := { stood := { row := dyaShiftRow, standIns := [], harness := (true, "5757d0038110da0a5eca4085a9e0fd9c30c06a5da9ab377bec593d071c3e7a87"), looks := false }, kinds := [], alts := [], laidByText := true, laidKinds := [.data, .data], laidTests := true, laidLooks := .later }
def DyaShiftCardSaid : Prop := Claim7.holds Tryd.pinned (.plain (OpenSpec.ofChange dyaShiftSpec)) dyaShiftCard

/-- THE TIED CARD OF 'overtonelaw02.DyaInts'. -/
def dyaIntsCard : Claim7 := { stood := { row := dyaIntsRow, standIns := [], harness := (true, "5757d0038110da0a5eca4085a9e0fd9c30c06a5da9ab377bec593d071c3e7a87"), looks := false }, kinds := [], alts := [], laidByText := true, laidKinds := [.data, .data], laidTests := true, laidLooks := .later }
def DyaIntsCardSaid : Prop := Claim7.holds Tryd.pinned (.plain (OpenSpec.ofChange dyaIntsSpec)) dyaIntsCard

/-- THE SECOND FORM's CARD OF 'overtonelaw02.DyaTells'. -/
def dyaTellsUptoCard : Claim7 := { stood := { row := dyaTellsUptoRow, standIns := [], harness := (true, "5757d0038110da0a5eca4085a9e0fd9c30c06a5da9ab377bec593d071c3e7a87"), looks := false }, kinds := [], alts := [], laidByText := true, laidKinds := [.data, .data], laidTests := true, laidLooks := .later }
def DyaTellsUptoCardSaid : Prop := Claim7.holds Tryd.pinned (.plain (OpenSpec.upto dyaTellsSpec)) dyaTellsUptoCard

/-- THE SECOND FORM's CARD OF 'overtonelaw02.DyaRing'. -/
def dyaRingUptoCard : Claim7 := { stood := { row := dyaRingUptoRow, standIns := [], harness := (true, "5757d0038110da0a5eca4085a9e0fd9c30c06a5da9ab377bec593d071c3e7a87"), looks := false }, kinds := [], alts := [], laidByText := true, laidKinds := [.data, .data], laidTests := true, laidLooks := .later }
def DyaRingUptoCardSaid : Prop := Claim7.holds Tryd.pinned (.plain (OpenSpec.upto dyaRingSpec)) dyaRingUptoCard

/-- THE SECOND FORM's CARD OF 'overtonelaw02.DyaOrder'. -/
def dyaOrderUptoCard : Claim7 := { stood := { row := dyaOrderUptoRow, standIns := [], harness := (true, "5757d0038110da0a5eca4085a9e0fd9c30c06a5da9ab377bec593d071c3e7a87"), looks := false }, kinds := [], alts := [], laidByText := true, laidKinds := [.data, .data], laidTests := true, laidLooks := .later }
def DyaOrderUptoCardSaid : Prop := Claim7.holds Tryd.pinned (.plain (OpenSpec.upto dyaOrderSpec)) dyaOrderUptoCard

/-- THE SECOND FORM's CARD OF 'overtonelaw02.DyaCut'. -/
def dyaCutUptoCard : Claim7 := { stood := { row := dyaCutUptoRow, standIns := [], harness := (true, "5757d0038110da0a5eca4085a9e0fd9c30c06a5da9ab377bec593d071c3e7a87"), looks := false }, kinds := [], alts := [], laidByText := true, laidKinds := [.data, .data], laidTests := true, laidLooks := .later }
def DyaCutUptoCardSaid : Prop := Claim7.holds Tryd.pinned (.plain (OpenSpec.upto dyaCutSpec)) dyaCutUptoCard

/-- THE SECOND FORM's CARD OF 'overtonelaw02.DyaShift'. -/
def dyaShiftUptoCard : Claim7 := { stood := { row := dyaShiftUptoRow, standIns := [], harness := (true, "5757d0038110da0a5eca4085a9e0fd9c30c06a5da9ab377bec593d071c3e7a87"), looks := false }, kinds := [], alts := [], laidByText := true, laidKinds := [.data, .data], laidTests := true, laidLooks := .later }
def DyaShiftUptoCardSaid : Prop := Claim7.holds Tryd.pinned (.plain (OpenSpec.upto dyaShiftSpec)) dyaShiftUptoCard

/-- THE SECOND FORM's CARD OF 'overtonelaw02.DyaInts'. -/
def dyaIntsUptoCard : Claim7 := { stood := { row := dyaIntsUptoRow, standIns := [], harness := (true, "5757d0038110da0a5eca4085a9e0fd9c30c06a5da9ab377bec593d071c3e7a87"), looks := false }, kinds := [], alts := [], laidByText := true, laidKinds := [.data, .data], laidTests := true, laidLooks := .later }
def DyaIntsUptoCardSaid : Prop := Claim7.holds Tryd.pinned (.plain (OpenSpec.upto dyaIntsSpec)) dyaIntsUptoCard
end Rows
end Go.Proofs.YtjnnodbejnmkmaaDoor
