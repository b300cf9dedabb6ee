/-
  DERIVED. GIVEN WITH THE SEED: THE CARDS: each row of YtdfkhaajeojeeaaDoorRows.lean that lists a variable, with what it lists TIED to the program's text (the seventh form; the later family's looks); each row that meets fmt, with fmt's text TOLD by the authors' own Lean function (tested against real Go, not proved from fmt's source: count such statements apart). THE CARD IS WHAT COUNTS. Prove the row's statement (the work); the ties are given (YtdfkhaajeojeeaaDoorTie.lean); close each card by the builder's one call (the guide's Derived/Test/ToyasCard.lean, 'card_holds'). Laid BY PROGRAM, IN A SANDBOX (cutbox-door.mjs). By AI agents, Wed Nov 11 2026. No macro, syntax, notation, axiom, sorry.
-/
import Derived.Test.YtdfkhaajeojeeaaDoorRows
import GoSem.ClaimSeven
namespace Go.Proofs.YtdfkhaajeojeeaaDoor
namespace Rows

/-- THE TIED CARD OF 'overtonelaw03.FloTells'. -/
def floTellsCard : Claim7 := { stood := { row := floTellsRow, standIns := [], harness := (true, "179c0d1614b2110091efbf55cd2188cab22a2f799c729c3fde09ba81ba91a4dc"), looks := false }, kinds := [], alts := [], laidByText := true, laidKinds := [.data, .data, .wider, .data], laidTests := true, laidLooks := .later }
def FloTellsCardSaid : Prop := Claim7.holds Tryd.pinned (.plain (OpenSpec.ofChange floTellsSpec)) floTellsCard

/-- THE TIED CARD OF 'overtonelaw03.FloBack'. -/
def floBackCard : Claim7 := { stood := { row := floBackRow, standIns := [], harness := (true, "179c0d1614b2110091efbf55cd2188cab22a2f799c729c3fde09ba81ba91a4dc"), looks := false }, kinds := [], alts := [], laidByText := true, laidKinds := [.data, .data, .wider, .data], laidTests := true, laidLooks := .later }
def FloBackCardSaid : Prop := Claim7.holds Tryd.pinned (.plain (OpenSpec.ofChange floBackSpec)) floBackCard

/-- THE TIED CARD OF 'overtonelaw03.FloNear'. -/
def floNearCard : Claim7 := { stood := { row := floNearRow, standIns := [], harness := (true, "179c0d1614b2110091efbf55cd2188cab22a2f799c729c3fde09ba81ba91a4dc"), looks := false }, kinds := [], alts := [], laidByText := true, laidKinds := [.data, .data, .wider, .data], laidTests := true, laidLooks := .later }
def FloNearCardSaid : Prop := Claim7.holds Tryd.pinned (.plain (OpenSpec.ofChange floNearSpec)) floNearCard

/-- THE TIED CARD OF 'overtonelaw03.FloOrder'. -/
def floOrderCard : Claim7 := { stood := { row := floOrderRow, standIns := [], harness := (true, "179c0d1614b2110091efbf55cd2188cab22a2f799c729c3fde09ba81ba91a4dc"), looks := false }, kinds := [], alts := [], laidByText := true, laidKinds := [.data, .data, .wider, .data], laidTests := true, laidLooks := .later }
def FloOrderCardSaid : Prop := Claim7.holds Tryd.pinned (.plain (OpenSpec.ofChange floOrderSpec)) floOrderCard

/-- THE TIED CARD OF 'overtonelaw03.FloNext'. -/
def floNextCard : Claim7 := { stood := { row := floNextRow, standIns := [], harness := (true, "179c0d1614b2110091efbf55cd2188cab22a2f799c729c3fde09ba81ba91a4dc"), looks := false }, kinds := [], alts := [], laidByText := true, laidKinds := [.data, .data, .wider, .data], laidTests := true, laidLooks := .later }
def FloNextCardSaid : Prop := Claim7.holds Tryd.pinned (.plain (OpenSpec.ofChange floNextSpec)) floNextCard

/-- THE TIED CARD OF 'overtonelaw03.FloScale'. -/
def floScaleCard : Claim7 := { stood := { row := floScaleRow, standIns := [], harness := (true, "179c0d1614b2110091efbf55cd2188cab22a2f799c729c3fde09ba81ba91a4dc"), looks := false }, kinds := [], alts := [], laidByText := true, laidKinds := [.data, .data, .wider, .data], laidTests := true, laidLooks := .later }
def FloScaleCardSaid : Prop := Claim7.holds Tryd.pinned (.plain (OpenSpec.ofChange floScaleSpec)) floScaleCard

/-- THE SECOND FORM's CARD OF 'overtonelaw03.FloTells'. -/
def floTellsUptoCard : Claim7 := { stood := { row := floTellsUptoRow, standIns := [], harness := (true, "179c0d1614b2110091efbf55cd2188cab22a2f799c729c3fde09ba81ba91a4dc"), looks := false }, kinds := [], alts := [], laidByText := true, laidKinds := [.data, .data, .wider, .data], laidTests := true, laidLooks := .later }
def FloTellsUptoCardSaid : Prop := Claim7.holds Tryd.pinned (.plain (OpenSpec.upto floTellsSpec)) floTellsUptoCard

/-- THE SECOND FORM's CARD OF 'overtonelaw03.FloBack'. -/
def floBackUptoCard : Claim7 := { stood := { row := floBackUptoRow, standIns := [], harness := (true, "179c0d1614b2110091efbf55cd2188cab22a2f799c729c3fde09ba81ba91a4dc"), looks := false }, kinds := [], alts := [], laidByText := true, laidKinds := [.data, .data, .wider, .data], laidTests := true, laidLooks := .later }
def FloBackUptoCardSaid : Prop := Claim7.holds Tryd.pinned (.plain (OpenSpec.upto floBackSpec)) floBackUptoCard

/-- THE SECOND FORM's CARD OF 'overtonelaw03.FloNear'. -/
def floNearUptoCard : Claim7 := { stood := { row := floNearUptoRow, standIns := [], harness := (true, "179c0d1614b2110091efbf55cd2188cab22a2f799c729c3fde09ba81ba91a4dc"), looks := false }, kinds := [], alts := [], laidByText := true, laidKinds := [.data, .data, .wider, .data], laidTests := true, laidLooks := .later }
def FloNearUptoCardSaid : Prop := Claim7.holds Tryd.pinned (.plain (OpenSpec.upto floNearSpec)) floNearUptoCard

/-- THE SECOND FORM's CARD OF 'overtonelaw03.FloOrder'. -/
def floOrderUptoCard : Claim7 := { stood := { row := floOrderUptoRow, standIns := [], harness := (true, "179c0d1614b2110091efbf55cd2188cab22a2f799c729c3fde09ba81ba91a4dc"), looks := false }, kinds := [], alts := [], laidByText := true, laidKinds := [.data, .data, .wider, .data], laidTests := true, laidLooks := .later }
def FloOrderUptoCardSaid : Prop := Claim7.holds Tryd.pinned (.plain (OpenSpec.upto floOrderSpec)) floOrderUptoCard

/-- THE SECOND FORM's CARD OF 'overtonelaw03.FloNext'. -/
def floNextUptoCard : Claim7 := { stood := { row := floNextUptoRow, standIns := [], harness := (true, "179c0d1614b2110091efbf55cd2188cab22a2f799c729c3fde09ba81ba91a4dc"), looks := false }, kinds := [], alts := [], laidByText := true, laidKinds := [.data, .data, .wider, .data], laidTests := true, laidLooks := .later }
def FloNextUptoCardSaid : Prop := Claim7.holds Tryd.pinned (.plain (OpenSpec.upto floNextSpec)) floNextUptoCard

/-- THE SECOND FORM's CARD OF 'overtonelaw03.FloScale'. -/
def floScaleUptoCard : Claim7 := { stood := { row := floScaleUptoRow, standIns := [], harness := (true, "179c0d1614b2110091efbf55cd2188cab22a2f799c729c3fde09ba81ba91a4dc"), looks := false }, kinds := [], alts := [], laidByText := true, laidKinds := [.data, .data, .wider, .data], laidTests := true, laidLooks := .later }
def FloScaleUptoCardSaid : Prop := Claim7.holds Tryd.pinned (.plain (OpenSpec.upto floScaleSpec)) floScaleUptoCard
end Rows
end Go.Proofs.YtdfkhaajeojeeaaDoor
