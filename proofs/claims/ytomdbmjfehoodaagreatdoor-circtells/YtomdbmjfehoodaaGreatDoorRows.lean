/-
  NARROWER THAN 'FOR EVERY INPUT', by the rows' own cells (each row's printed sentence says how): CircTells: laid · CircWide: laid · CircOne: laid · CircTurns: laid · CircSum: laid · CircMore: laid.
  DERIVED. THE GIVEN ROWS OF THIS SEAT. 6 by the template 'for every input the law returns true; each argument reads behind the call as it read before'; 0 by the template 'total and deterministic' (their statements: YtomdbmjfehoodaaGreatDoorTotals.lean).
  GIVEN WITH THE SEED: the statements are not yours to turn. If you find one false, say at which input.
  Laid BY PROGRAM, IN A SANDBOX (cutbox-rows.mjs): the forced cells as the released guide's own fill.sh prints them over the translation 5a03ad25e88063d1… (all of the seat's roots in one cut). By AI agents, Wed Nov 11 2026. No macro, syntax, notation, axiom, sorry.
-/
import Derived.Test.YtomdbmjfehoodaaGreatDoorChecked
import GoSem.Claim
import GoSem.ClaimJoined
import GoSem.ClaimMapViews
import Derived.JoinedTies
import Derived.KernelRfl
namespace Go.Proofs.YtomdbmjfehoodaaGreatDoor
/- THE CELL 'sum', in the pinned program and in every row, IS THE sha256 OF THE DUMP (.gsa) THAT YtomdbmjfehoodaaGreatDoorProg.lean LOADS. Nothing in Lean hashes anything: it is a label: what it is worth is what the hold of that sum in a sandbox is worth. -/
noncomputable def Tryz.pinned : Pinned := { name := "ytomdbmjfehoodaagreatdoor", sum := "5a03ad25e88063d182b699aab0df92ca92aba4aa5f9ac6a27423339fcefa7cf4", checked := Tryz.checked }
namespace Rows
def none {H : Type} : Left H := { results := [], args := [] }

/- WHAT THE LISTED PACKAGE-LEVEL VARIABLES READ AS WHEN THE CALL BEGINS. Each datum BY PROGRAM (the guide's laid-datum.mjs) off the statement by which the dump's own 'gosem.cut.vars' lays the variable. In a bare row this is a premise. The card (YtomdbmjfehoodaaGreatDoorCards.lean) ties it to the program's text. -/
def laid_math_bits_deBruijn32tab {H : Type} : DataW H := .agg [.lit (.int .u8 0), .lit (.int .u8 1), .lit (.int .u8 28), .lit (.int .u8 2), .lit (.int .u8 29), .lit (.int .u8 14), .lit (.int .u8 24), .lit (.int .u8 3), .lit (.int .u8 30), .lit (.int .u8 22), .lit (.int .u8 20), .lit (.int .u8 15), .lit (.int .u8 25), .lit (.int .u8 17), .lit (.int .u8 4), .lit (.int .u8 8), .lit (.int .u8 31), .lit (.int .u8 27), .lit (.int .u8 13), .lit (.int .u8 23), .lit (.int .u8 21), .lit (.int .u8 19), .lit (.int .u8 16), .lit (.int .u8 7), .lit (.int .u8 26), .lit (.int .u8 12), .lit (.int .u8 18), .lit (.int .u8 6), .lit (.int .u8 11), .lit (.int .u8 5), .lit (.int .u8 10), .lit (.int .u8 9)]
def laid_math_bits_deBruijn64tab {H : Type} : DataW H := .agg [.lit (.int .u8 0), .lit (.int .u8 1), .lit (.int .u8 56), .lit (.int .u8 2), .lit (.int .u8 57), .lit (.int .u8 49), .lit (.int .u8 28), .lit (.int .u8 3), .lit (.int .u8 61), .lit (.int .u8 58), .lit (.int .u8 42), .lit (.int .u8 50), .lit (.int .u8 38), .lit (.int .u8 29), .lit (.int .u8 17), .lit (.int .u8 4), .lit (.int .u8 62), .lit (.int .u8 47), .lit (.int .u8 59), .lit (.int .u8 36), .lit (.int .u8 45), .lit (.int .u8 43), .lit (.int .u8 51), .lit (.int .u8 22), .lit (.int .u8 53), .lit (.int .u8 39), .lit (.int .u8 33), .lit (.int .u8 30), .lit (.int .u8 24), .lit (.int .u8 18), .lit (.int .u8 12), .lit (.int .u8 5), .lit (.int .u8 63), .lit (.int .u8 55), .lit (.int .u8 48), .lit (.int .u8 27), .lit (.int .u8 60), .lit (.int .u8 41), .lit (.int .u8 37), .lit (.int .u8 16), .lit (.int .u8 46), .lit (.int .u8 35), .lit (.int .u8 44), .lit (.int .u8 21), .lit (.int .u8 52), .lit (.int .u8 32), .lit (.int .u8 23), .lit (.int .u8 11), .lit (.int .u8 54), .lit (.int .u8 26), .lit (.int .u8 40), .lit (.int .u8 15), .lit (.int .u8 34), .lit (.int .u8 20), .lit (.int .u8 31), .lit (.int .u8 10), .lit (.int .u8 25), .lit (.int .u8 14), .lit (.int .u8 19), .lit (.int .u8 9), .lit (.int .u8 13), .lit (.int .u8 8), .lit (.int .u8 7), .lit (.int .u8 6)]
def laid_overtone_turn_places {H : Type} : DataW H := .agg [.agg [.lit (.bool false), .lit (.bool false), .lit (.bool false)], .agg [.lit (.bool true), .lit (.bool false), .lit (.bool false)], .agg [.lit (.bool true), .lit (.bool true), .lit (.bool false)], .agg [.lit (.bool false), .lit (.bool true), .lit (.bool false)], .agg [.lit (.bool false), .lit (.bool true), .lit (.bool true)], .agg [.lit (.bool true), .lit (.bool true), .lit (.bool true)], .agg [.lit (.bool true), .lit (.bool false), .lit (.bool true)], .agg [.lit (.bool false), .lit (.bool false), .lit (.bool true)]]

/-- 'overtonelaw07.CircTells': WHATEVER THE INPUT: true; the input reads as it did. -/
def circTellsSpec : ChangeSpec := { name := "circTells", fn := fun _ => fun
  | [d1, d2, d3] => { results := [.lit (.bool true)], args := [d1, d2, d3] }
  | _ => none }
def circTellsRow : OpenClaim := { program := "ytomdbmjfehoodaagreatdoor", sum := "5a03ad25e88063d182b699aab0df92ca92aba4aa5f9ac6a27423339fcefa7cf4", func := "overtone/overtonelaw07.CircTells", spec := "circTells", unfollowed := true, recurses := true, named := ["math/bits.deBruijn32tab", "math/bits.deBruijn64tab", "overtone/turn.places"], apart := false, laid := [("math/bits.deBruijn32tab", laid_math_bits_deBruijn32tab), ("math/bits.deBruijn64tab", laid_math_bits_deBruijn64tab), ("overtone/turn.places", laid_overtone_turn_places)] }
def CircTellsSaid : Prop := circTellsRow.holds Tryz.pinned (OpenSpec.ofChange circTellsSpec)

/-- ITS FALSE NEIGHBOUR: 'it returns false'. Refute it at one input. -/
def circTellsWrong : ChangeSpec := { name := "circTells", fn := fun _ => fun
  | [d1, d2, d3] => { results := [.lit (.bool false)], args := [d1, d2, d3] }
  | _ => none }
def CircTellsWrongFalsely : Prop := circTellsRow.holds Tryz.pinned (OpenSpec.ofChange circTellsWrong)

/-- 'overtonelaw07.CircWide': WHATEVER THE INPUT: true; the input reads as it did. -/
def circWideSpec : ChangeSpec := { name := "circWide", fn := fun _ => fun
  | [d1, d2] => { results := [.lit (.bool true)], args := [d1, d2] }
  | _ => none }
def circWideRow : OpenClaim := { program := "ytomdbmjfehoodaagreatdoor", sum := "5a03ad25e88063d182b699aab0df92ca92aba4aa5f9ac6a27423339fcefa7cf4", func := "overtone/overtonelaw07.CircWide", spec := "circWide", unfollowed := true, recurses := true, named := ["math/bits.deBruijn32tab", "math/bits.deBruijn64tab", "overtone/turn.places"], apart := false, laid := [("math/bits.deBruijn32tab", laid_math_bits_deBruijn32tab), ("math/bits.deBruijn64tab", laid_math_bits_deBruijn64tab), ("overtone/turn.places", laid_overtone_turn_places)] }
def CircWideSaid : Prop := circWideRow.holds Tryz.pinned (OpenSpec.ofChange circWideSpec)

/-- ITS FALSE NEIGHBOUR: 'it returns false'. Refute it at one input. -/
def circWideWrong : ChangeSpec := { name := "circWide", fn := fun _ => fun
  | [d1, d2] => { results := [.lit (.bool false)], args := [d1, d2] }
  | _ => none }
def CircWideWrongFalsely : Prop := circWideRow.holds Tryz.pinned (OpenSpec.ofChange circWideWrong)

/-- 'overtonelaw07.CircOne': WHATEVER THE INPUT: true; the input reads as it did. -/
def circOneSpec : ChangeSpec := { name := "circOne", fn := fun _ => fun
  | [d1, d2] => { results := [.lit (.bool true)], args := [d1, d2] }
  | _ => none }
def circOneRow : OpenClaim := { program := "ytomdbmjfehoodaagreatdoor", sum := "5a03ad25e88063d182b699aab0df92ca92aba4aa5f9ac6a27423339fcefa7cf4", func := "overtone/overtonelaw07.CircOne", spec := "circOne", unfollowed := true, recurses := true, named := ["math/bits.deBruijn32tab", "math/bits.deBruijn64tab", "overtone/turn.places"], apart := false, laid := [("math/bits.deBruijn32tab", laid_math_bits_deBruijn32tab), ("math/bits.deBruijn64tab", laid_math_bits_deBruijn64tab), ("overtone/turn.places", laid_overtone_turn_places)] }
def CircOneSaid : Prop := circOneRow.holds Tryz.pinned (OpenSpec.ofChange circOneSpec)

/-- ITS FALSE NEIGHBOUR: 'it returns false'. Refute it at one input. -/
def circOneWrong : ChangeSpec := { name := "circOne", fn := fun _ => fun
  | [d1, d2] => { results := [.lit (.bool false)], args := [d1, d2] }
  | _ => none }
def CircOneWrongFalsely : Prop := circOneRow.holds Tryz.pinned (OpenSpec.ofChange circOneWrong)

/-- 'overtonelaw07.CircTurns': WHATEVER THE INPUT: true; the input reads as it did. -/
def circTurnsSpec : ChangeSpec := { name := "circTurns", fn := fun _ => fun
  | [d1, d2] => { results := [.lit (.bool true)], args := [d1, d2] }
  | _ => none }
def circTurnsRow : OpenClaim := { program := "ytomdbmjfehoodaagreatdoor", sum := "5a03ad25e88063d182b699aab0df92ca92aba4aa5f9ac6a27423339fcefa7cf4", func := "overtone/overtonelaw07.CircTurns", spec := "circTurns", unfollowed := true, recurses := true, named := ["math/bits.deBruijn32tab", "math/bits.deBruijn64tab", "overtone/turn.places"], apart := false, laid := [("math/bits.deBruijn32tab", laid_math_bits_deBruijn32tab), ("math/bits.deBruijn64tab", laid_math_bits_deBruijn64tab), ("overtone/turn.places", laid_overtone_turn_places)] }
def CircTurnsSaid : Prop := circTurnsRow.holds Tryz.pinned (OpenSpec.ofChange circTurnsSpec)

/-- ITS FALSE NEIGHBOUR: 'it returns false'. Refute it at one input. -/
def circTurnsWrong : ChangeSpec := { name := "circTurns", fn := fun _ => fun
  | [d1, d2] => { results := [.lit (.bool false)], args := [d1, d2] }
  | _ => none }
def CircTurnsWrongFalsely : Prop := circTurnsRow.holds Tryz.pinned (OpenSpec.ofChange circTurnsWrong)

/-- 'overtonelaw07.CircSum': WHATEVER THE INPUT: true; the input reads as it did. -/
def circSumSpec : ChangeSpec := { name := "circSum", fn := fun _ => fun
  | [d1, d2, d3] => { results := [.lit (.bool true)], args := [d1, d2, d3] }
  | _ => none }
def circSumRow : OpenClaim := { program := "ytomdbmjfehoodaagreatdoor", sum := "5a03ad25e88063d182b699aab0df92ca92aba4aa5f9ac6a27423339fcefa7cf4", func := "overtone/overtonelaw07.CircSum", spec := "circSum", unfollowed := true, recurses := true, named := ["math/bits.deBruijn32tab", "math/bits.deBruijn64tab", "overtone/turn.places"], apart := false, laid := [("math/bits.deBruijn32tab", laid_math_bits_deBruijn32tab), ("math/bits.deBruijn64tab", laid_math_bits_deBruijn64tab), ("overtone/turn.places", laid_overtone_turn_places)] }
def CircSumSaid : Prop := circSumRow.holds Tryz.pinned (OpenSpec.ofChange circSumSpec)

/-- ITS FALSE NEIGHBOUR: 'it returns false'. Refute it at one input. -/
def circSumWrong : ChangeSpec := { name := "circSum", fn := fun _ => fun
  | [d1, d2, d3] => { results := [.lit (.bool false)], args := [d1, d2, d3] }
  | _ => none }
def CircSumWrongFalsely : Prop := circSumRow.holds Tryz.pinned (OpenSpec.ofChange circSumWrong)

/-- 'overtonelaw07.CircMore': WHATEVER THE INPUT: true; the input reads as it did. -/
def circMoreSpec : ChangeSpec := { name := "circMore", fn := fun _ => fun
  | [d1, d2, d3, d4] => { results := [.lit (.bool true)], args := [d1, d2, d3, d4] }
  | _ => none }
def circMoreRow : OpenClaim := { program := "ytomdbmjfehoodaagreatdoor", sum := "5a03ad25e88063d182b699aab0df92ca92aba4aa5f9ac6a27423339fcefa7cf4", func := "overtone/overtonelaw07.CircMore", spec := "circMore", unfollowed := true, recurses := true, named := ["math/bits.deBruijn32tab", "math/bits.deBruijn64tab", "overtone/turn.places"], apart := false, laid := [("math/bits.deBruijn32tab", laid_math_bits_deBruijn32tab), ("math/bits.deBruijn64tab", laid_math_bits_deBruijn64tab), ("overtone/turn.places", laid_overtone_turn_places)] }
def CircMoreSaid : Prop := circMoreRow.holds Tryz.pinned (OpenSpec.ofChange circMoreSpec)

/-- ITS FALSE NEIGHBOUR: 'it returns false'. Refute it at one input. -/
def circMoreWrong : ChangeSpec := { name := "circMore", fn := fun _ => fun
  | [d1, d2, d3, d4] => { results := [.lit (.bool false)], args := [d1, d2, d3, d4] }
  | _ => none }
def CircMoreWrongFalsely : Prop := circMoreRow.holds Tryz.pinned (OpenSpec.ofChange circMoreWrong)

/- THE SECOND FORM. 'bulk': how many values and letters a reading holds, each counted each time it is reached (what is shared counts as often as it is met; a slice's spare places count too). A statement '..UptoSaid' is the law's where the arguments, and the package variables that the reading takes, are together of bulk at most 1048576: NARROWER than '..Said'. Prove '..Said' where nothing that the law and all that it calls make is longer than what came in: it says more and counts as full. Else prove '..UptoSaid'. A law counts once. -/
mutual
def uptoBulk {H : Type} : DataW H → Nat
  | .lit (.string bytes) => bytes.length + 1
  | .lit _ => 1
  | .nil => 1
  | .ptr d => uptoBulk d + 1
  | .slice elems spare => uptoBulkAll elems + uptoBulkAll spare + 1
  | .agg parts => uptoBulkAll parts + 1
  | .iface _ d => uptoBulk d + 1
  | .map entries => uptoBulkEntries entries + 1
  | .held _ => 1
def uptoBulkAll {H : Type} : List (DataW H) → Nat
  | [] => 0
  | d :: r => uptoBulk d + uptoBulkAll r
def uptoBulkEntries {H : Type} : List (Lit × DataW H) → Nat
  | [] => 0
  | x :: r => uptoBulkEntry x + uptoBulkEntries r
def uptoBulkEntry {H : Type} : Lit × DataW H → Nat
  | (.string bytes, d) => bytes.length + uptoBulk d + 1
  | (_, d) => uptoBulk d + 1
 end
def uptoSmall : (H : Type) → List (DataW H) → Bool := fun _ ds => decide (uptoBulkAll ds ≤ 1048576)
def OpenSpec.upto (s : _root_.Go.ChangeSpec) : _root_.Go.OpenSpec := { _root_.Go.OpenSpec.ofChange s with cond := some uptoSmall }

/-- 'overtonelaw07.CircTells', WHERE WHAT IT READS IS OF BULK AT MOST 1048576: true; the input reads as it did. -/
def circTellsUptoRow : OpenClaim := { program := "ytomdbmjfehoodaagreatdoor", sum := "5a03ad25e88063d182b699aab0df92ca92aba4aa5f9ac6a27423339fcefa7cf4", func := "overtone/overtonelaw07.CircTells", spec := "circTells", unfollowed := true, recurses := true, named := ["math/bits.deBruijn32tab", "math/bits.deBruijn64tab", "overtone/turn.places"], apart := false, laid := [("math/bits.deBruijn32tab", laid_math_bits_deBruijn32tab), ("math/bits.deBruijn64tab", laid_math_bits_deBruijn64tab), ("overtone/turn.places", laid_overtone_turn_places)], narrowed := true }
def CircTellsUptoSaid : Prop := circTellsUptoRow.holds Tryz.pinned (OpenSpec.upto circTellsSpec)

/-- 'overtonelaw07.CircWide', WHERE WHAT IT READS IS OF BULK AT MOST 1048576: true; the input reads as it did. -/
def circWideUptoRow : OpenClaim := { program := "ytomdbmjfehoodaagreatdoor", sum := "5a03ad25e88063d182b699aab0df92ca92aba4aa5f9ac6a27423339fcefa7cf4", func := "overtone/overtonelaw07.CircWide", spec := "circWide", unfollowed := true, recurses := true, named := ["math/bits.deBruijn32tab", "math/bits.deBruijn64tab", "overtone/turn.places"], apart := false, laid := [("math/bits.deBruijn32tab", laid_math_bits_deBruijn32tab), ("math/bits.deBruijn64tab", laid_math_bits_deBruijn64tab), ("overtone/turn.places", laid_overtone_turn_places)], narrowed := true }
def CircWideUptoSaid : Prop := circWideUptoRow.holds Tryz.pinned (OpenSpec.upto circWideSpec)

/-- 'overtonelaw07.CircOne', WHERE WHAT IT READS IS OF BULK AT MOST 1048576: true; the input reads as it did. -/
def circOneUptoRow : OpenClaim := { program := "ytomdbmjfehoodaagreatdoor", sum := "5a03ad25e88063d182b699aab0df92ca92aba4aa5f9ac6a27423339fcefa7cf4", func := "overtone/overtonelaw07.CircOne", spec := "circOne", unfollowed := true, recurses := true, named := ["math/bits.deBruijn32tab", "math/bits.deBruijn64tab", "overtone/turn.places"], apart := false, laid := [("math/bits.deBruijn32tab", laid_math_bits_deBruijn32tab), ("math/bits.deBruijn64tab", laid_math_bits_deBruijn64tab), ("overtone/turn.places", laid_overtone_turn_places)], narrowed := true }
def CircOneUptoSaid : Prop := circOneUptoRow.holds Tryz.pinned (OpenSpec.upto circOneSpec)

/-- 'overtonelaw07.CircTurns', WHERE WHAT IT READS IS OF BULK AT MOST 1048576: true; the input reads as it did. -/
def circTurnsUptoRow : OpenClaim := { program := "ytomdbmjfehoodaagreatdoor", sum := "5a03ad25e88063d182b699aab0df92ca92aba4aa5f9ac6a27423339fcefa7cf4", func := "overtone/overtonelaw07.CircTurns", spec := "circTurns", unfollowed := true, recurses := true, named := ["math/bits.deBruijn32tab", "math/bits.deBruijn64tab", "overtone/turn.places"], apart := false, laid := [("math/bits.deBruijn32tab", laid_math_bits_deBruijn32tab), ("math/bits.deBruijn64tab", laid_math_bits_deBruijn64tab), ("overtone/turn.places", laid_overtone_turn_places)], narrowed := true }
def CircTurnsUptoSaid : Prop := circTurnsUptoRow.holds Tryz.pinned (OpenSpec.upto circTurnsSpec)

/-- 'overtonelaw07.CircSum', WHERE WHAT IT READS IS OF BULK AT MOST 1048576: true; the input reads as it did. -/
def circSumUptoRow : OpenClaim := { program := "ytomdbmjfehoodaagreatdoor", sum := "5a03ad25e88063d182b699aab0df92ca92aba4aa5f9ac6a27423339fcefa7cf4", func := "overtone/overtonelaw07.CircSum", spec := "circSum", unfollowed := true, recurses := true, named := ["math/bits.deBruijn32tab", "math/bits.deBruijn64tab", "overtone/turn.places"], apart := false, laid := [("math/bits.deBruijn32tab", laid_math_bits_deBruijn32tab), ("math/bits.deBruijn64tab", laid_math_bits_deBruijn64tab), ("overtone/turn.places", laid_overtone_turn_places)], narrowed := true }
def CircSumUptoSaid : Prop := circSumUptoRow.holds Tryz.pinned (OpenSpec.upto circSumSpec)

/-- 'overtonelaw07.CircMore', WHERE WHAT IT READS IS OF BULK AT MOST 1048576: true; the input reads as it did. -/
def circMoreUptoRow : OpenClaim := { program := "ytomdbmjfehoodaagreatdoor", sum := "5a03ad25e88063d182b699aab0df92ca92aba4aa5f9ac6a27423339fcefa7cf4", func := "overtone/overtonelaw07.CircMore", spec := "circMore", unfollowed := true, recurses := true, named := ["math/bits.deBruijn32tab", "math/bits.deBruijn64tab", "overtone/turn.places"], apart := false, laid := [("math/bits.deBruijn32tab", laid_math_bits_deBruijn32tab), ("math/bits.deBruijn64tab", laid_math_bits_deBruijn64tab), ("overtone/turn.places", laid_overtone_turn_places)], narrowed := true }
def CircMoreUptoSaid : Prop := circMoreUptoRow.holds Tryz.pinned (OpenSpec.upto circMoreSpec)

end Rows
end Go.Proofs.YtomdbmjfehoodaaGreatDoor
