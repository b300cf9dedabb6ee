/-
  NARROWER THAN 'FOR EVERY INPUT', by the rows' own cells (each row's printed sentence says how): FloTells: laid · FloBack: laid · FloNear: laid · FloOrder: laid · FloNext: laid · FloScale: laid.
  DERIVED. THE GIVEN ROWS OF THIS SEAT. 6 by the template 'for every input the law returns true; each argument reads behind the call as it read before'; 0 by the template 'total and deterministic' (their statements: YtdfkhaajeojeeaaDoorTotals.lean).
  GIVEN WITH THE SEED: the statements are not yours to turn. If you find one false, say at which input.
  Laid BY PROGRAM, IN A SANDBOX (cutbox-rows.mjs): the forced cells as the released guide's own fill.sh prints them over the translation 5fefa66ff8475cf4… (all of the seat's roots in one cut). By AI agents, Wed Nov 11 2026. No macro, syntax, notation, axiom, sorry.
-/
import Derived.Test.YtdfkhaajeojeeaaDoorChecked
import GoSem.Claim
import GoSem.ClaimJoined
import GoSem.ClaimMapViews
import Derived.JoinedTies
import Derived.KernelRfl
namespace Go.Proofs.YtdfkhaajeojeeaaDoor
/- THE CELL 'sum', in the pinned program and in every row, IS THE sha256 OF THE DUMP (.gsa) THAT YtdfkhaajeojeeaaDoorProg.lean LOADS. Nothing in Lean hashes anything: it is a label: what it is worth is what the hold of that sum in a sandbox is worth. -/
noncomputable def Tryd.pinned : Pinned := { name := "ytdfkhaajeojeeaadoor", sum := "5fefa66ff8475cf4a84039cfc3fcb7a270701521eb3b86da945998ec2df4a99f", checked := Tryd.checked }
namespace Rows
def none {H : Type} : Left H := { results := [], args := [] }

/- WHAT THE LISTED PACKAGE-LEVEL VARIABLES READ AS WHEN THE CALL BEGINS. Each datum BY PROGRAM (the guide's laid-datum.mjs) off the statement by which the dump's own 'gosem.cut.vars' lays the variable. In a bare row this is a premise. The card (YtdfkhaajeojeeaaDoorCards.lean) ties it to the program's text. -/
def laid_math_bits_deBruijn32tab {H : Type} : DataW H := .agg [.lit (.int .u8 0), .lit (.int .u8 1), .lit (.int .u8 28), .lit (.int .u8 2), .lit (.int .u8 29), .lit (.int .u8 14), .lit (.int .u8 24), .lit (.int .u8 3), .lit (.int .u8 30), .lit (.int .u8 22), .lit (.int .u8 20), .lit (.int .u8 15), .lit (.int .u8 25), .lit (.int .u8 17), .lit (.int .u8 4), .lit (.int .u8 8), .lit (.int .u8 31), .lit (.int .u8 27), .lit (.int .u8 13), .lit (.int .u8 23), .lit (.int .u8 21), .lit (.int .u8 19), .lit (.int .u8 16), .lit (.int .u8 7), .lit (.int .u8 26), .lit (.int .u8 12), .lit (.int .u8 18), .lit (.int .u8 6), .lit (.int .u8 11), .lit (.int .u8 5), .lit (.int .u8 10), .lit (.int .u8 9)]
def laid_math_bits_deBruijn64tab {H : Type} : DataW H := .agg [.lit (.int .u8 0), .lit (.int .u8 1), .lit (.int .u8 56), .lit (.int .u8 2), .lit (.int .u8 57), .lit (.int .u8 49), .lit (.int .u8 28), .lit (.int .u8 3), .lit (.int .u8 61), .lit (.int .u8 58), .lit (.int .u8 42), .lit (.int .u8 50), .lit (.int .u8 38), .lit (.int .u8 29), .lit (.int .u8 17), .lit (.int .u8 4), .lit (.int .u8 62), .lit (.int .u8 47), .lit (.int .u8 59), .lit (.int .u8 36), .lit (.int .u8 45), .lit (.int .u8 43), .lit (.int .u8 51), .lit (.int .u8 22), .lit (.int .u8 53), .lit (.int .u8 39), .lit (.int .u8 33), .lit (.int .u8 30), .lit (.int .u8 24), .lit (.int .u8 18), .lit (.int .u8 12), .lit (.int .u8 5), .lit (.int .u8 63), .lit (.int .u8 55), .lit (.int .u8 48), .lit (.int .u8 27), .lit (.int .u8 60), .lit (.int .u8 41), .lit (.int .u8 37), .lit (.int .u8 16), .lit (.int .u8 46), .lit (.int .u8 35), .lit (.int .u8 44), .lit (.int .u8 21), .lit (.int .u8 52), .lit (.int .u8 32), .lit (.int .u8 23), .lit (.int .u8 11), .lit (.int .u8 54), .lit (.int .u8 26), .lit (.int .u8 40), .lit (.int .u8 15), .lit (.int .u8 34), .lit (.int .u8 20), .lit (.int .u8 31), .lit (.int .u8 10), .lit (.int .u8 25), .lit (.int .u8 14), .lit (.int .u8 19), .lit (.int .u8 9), .lit (.int .u8 13), .lit (.int .u8 8), .lit (.int .u8 7), .lit (.int .u8 6)]
def laid_overtone_flo_infinity {H : Type} : DataW H := .agg [.lit (.int .i64 0), .lit (.int .i64 2047), .lit (.int .i64 0)]
def laid_overtone_flo_notNumber {H : Type} : DataW H := .agg [.lit (.int .i64 0), .lit (.int .i64 2047), .lit (.int .i64 1)]

/-- 'overtonelaw03.FloTells': WHATEVER THE INPUT: true; the input reads as it did. -/
def floTellsSpec : ChangeSpec := { name := "floTells", fn := fun _ => fun
  | [d1, d2, d3] => { results := [.lit (.bool true)], args := [d1, d2, d3] }
  | _ => none }
def floTellsRow : OpenClaim := { program := "ytdfkhaajeojeeaadoor", sum := "5fefa66ff8475cf4a84039cfc3fcb7a270701521eb3b86da945998ec2df4a99f", func := "overtone/overtonelaw03.FloTells", spec := "floTells", inPlace := ["math.Float64bits", "math.Float64frombits"], unfollowed := true, recurses := true, named := ["overtone/flo.notNumber", "math/bits.deBruijn32tab", "math/bits.deBruijn64tab", "overtone/flo.infinity"], apart := false, laid := [("math/bits.deBruijn32tab", laid_math_bits_deBruijn32tab), ("math/bits.deBruijn64tab", laid_math_bits_deBruijn64tab), ("overtone/flo.infinity", laid_overtone_flo_infinity), ("overtone/flo.notNumber", laid_overtone_flo_notNumber)] }
def FloTellsSaid : Prop := floTellsRow.holds Tryd.pinned (OpenSpec.ofChange floTellsSpec)

/-- ITS FALSE NEIGHBOUR: 'it returns false'. Refute it at one input. -/
def floTellsWrong : ChangeSpec := { name := "floTells", fn := fun _ => fun
  | [d1, d2, d3] => { results := [.lit (.bool false)], args := [d1, d2, d3] }
  | _ => none }
def FloTellsWrongFalsely : Prop := floTellsRow.holds Tryd.pinned (OpenSpec.ofChange floTellsWrong)

/-- 'overtonelaw03.FloBack': WHATEVER THE INPUT: true; the input reads as it did. -/
def floBackSpec : ChangeSpec := { name := "floBack", fn := fun _ => fun
  | [d] => { results := [.lit (.bool true)], args := [d] }
  | _ => none }
def floBackRow : OpenClaim := { program := "ytdfkhaajeojeeaadoor", sum := "5fefa66ff8475cf4a84039cfc3fcb7a270701521eb3b86da945998ec2df4a99f", func := "overtone/overtonelaw03.FloBack", spec := "floBack", inPlace := ["math.Float64bits", "math.Float64frombits"], unfollowed := true, recurses := true, named := ["overtone/flo.notNumber", "math/bits.deBruijn32tab", "math/bits.deBruijn64tab", "overtone/flo.infinity"], apart := false, laid := [("math/bits.deBruijn32tab", laid_math_bits_deBruijn32tab), ("math/bits.deBruijn64tab", laid_math_bits_deBruijn64tab), ("overtone/flo.infinity", laid_overtone_flo_infinity), ("overtone/flo.notNumber", laid_overtone_flo_notNumber)] }
def FloBackSaid : Prop := floBackRow.holds Tryd.pinned (OpenSpec.ofChange floBackSpec)

/-- ITS FALSE NEIGHBOUR: 'it returns false'. Refute it at one input. -/
def floBackWrong : ChangeSpec := { name := "floBack", fn := fun _ => fun
  | [d] => { results := [.lit (.bool false)], args := [d] }
  | _ => none }
def FloBackWrongFalsely : Prop := floBackRow.holds Tryd.pinned (OpenSpec.ofChange floBackWrong)

/-- 'overtonelaw03.FloNear': WHATEVER THE INPUT: true; the input reads as it did. -/
def floNearSpec : ChangeSpec := { name := "floNear", fn := fun _ => fun
  | [d1, d2] => { results := [.lit (.bool true)], args := [d1, d2] }
  | _ => none }
def floNearRow : OpenClaim := { program := "ytdfkhaajeojeeaadoor", sum := "5fefa66ff8475cf4a84039cfc3fcb7a270701521eb3b86da945998ec2df4a99f", func := "overtone/overtonelaw03.FloNear", spec := "floNear", inPlace := ["math.Float64bits", "math.Float64frombits"], unfollowed := true, recurses := true, named := ["overtone/flo.notNumber", "math/bits.deBruijn32tab", "math/bits.deBruijn64tab", "overtone/flo.infinity"], apart := false, laid := [("math/bits.deBruijn32tab", laid_math_bits_deBruijn32tab), ("math/bits.deBruijn64tab", laid_math_bits_deBruijn64tab), ("overtone/flo.infinity", laid_overtone_flo_infinity), ("overtone/flo.notNumber", laid_overtone_flo_notNumber)] }
def FloNearSaid : Prop := floNearRow.holds Tryd.pinned (OpenSpec.ofChange floNearSpec)

/-- ITS FALSE NEIGHBOUR: 'it returns false'. Refute it at one input. -/
def floNearWrong : ChangeSpec := { name := "floNear", fn := fun _ => fun
  | [d1, d2] => { results := [.lit (.bool false)], args := [d1, d2] }
  | _ => none }
def FloNearWrongFalsely : Prop := floNearRow.holds Tryd.pinned (OpenSpec.ofChange floNearWrong)

/-- 'overtonelaw03.FloOrder': WHATEVER THE INPUT: true; the input reads as it did. -/
def floOrderSpec : ChangeSpec := { name := "floOrder", fn := fun _ => fun
  | [d1, d2, d3, d4] => { results := [.lit (.bool true)], args := [d1, d2, d3, d4] }
  | _ => none }
def floOrderRow : OpenClaim := { program := "ytdfkhaajeojeeaadoor", sum := "5fefa66ff8475cf4a84039cfc3fcb7a270701521eb3b86da945998ec2df4a99f", func := "overtone/overtonelaw03.FloOrder", spec := "floOrder", inPlace := ["math.Float64bits", "math.Float64frombits"], unfollowed := true, recurses := true, named := ["overtone/flo.notNumber", "math/bits.deBruijn32tab", "math/bits.deBruijn64tab", "overtone/flo.infinity"], apart := false, laid := [("math/bits.deBruijn32tab", laid_math_bits_deBruijn32tab), ("math/bits.deBruijn64tab", laid_math_bits_deBruijn64tab), ("overtone/flo.infinity", laid_overtone_flo_infinity), ("overtone/flo.notNumber", laid_overtone_flo_notNumber)] }
def FloOrderSaid : Prop := floOrderRow.holds Tryd.pinned (OpenSpec.ofChange floOrderSpec)

/-- ITS FALSE NEIGHBOUR: 'it returns false'. Refute it at one input. -/
def floOrderWrong : ChangeSpec := { name := "floOrder", fn := fun _ => fun
  | [d1, d2, d3, d4] => { results := [.lit (.bool false)], args := [d1, d2, d3, d4] }
  | _ => none }
def FloOrderWrongFalsely : Prop := floOrderRow.holds Tryd.pinned (OpenSpec.ofChange floOrderWrong)

/-- 'overtonelaw03.FloNext': WHATEVER THE INPUT: true; the input reads as it did. -/
def floNextSpec : ChangeSpec := { name := "floNext", fn := fun _ => fun
  | [d1, d2] => { results := [.lit (.bool true)], args := [d1, d2] }
  | _ => none }
def floNextRow : OpenClaim := { program := "ytdfkhaajeojeeaadoor", sum := "5fefa66ff8475cf4a84039cfc3fcb7a270701521eb3b86da945998ec2df4a99f", func := "overtone/overtonelaw03.FloNext", spec := "floNext", inPlace := ["math.Float64bits", "math.Float64frombits"], unfollowed := true, recurses := true, named := ["overtone/flo.notNumber", "math/bits.deBruijn32tab", "math/bits.deBruijn64tab", "overtone/flo.infinity"], apart := false, laid := [("math/bits.deBruijn32tab", laid_math_bits_deBruijn32tab), ("math/bits.deBruijn64tab", laid_math_bits_deBruijn64tab), ("overtone/flo.infinity", laid_overtone_flo_infinity), ("overtone/flo.notNumber", laid_overtone_flo_notNumber)] }
def FloNextSaid : Prop := floNextRow.holds Tryd.pinned (OpenSpec.ofChange floNextSpec)

/-- ITS FALSE NEIGHBOUR: 'it returns false'. Refute it at one input. -/
def floNextWrong : ChangeSpec := { name := "floNext", fn := fun _ => fun
  | [d1, d2] => { results := [.lit (.bool false)], args := [d1, d2] }
  | _ => none }
def FloNextWrongFalsely : Prop := floNextRow.holds Tryd.pinned (OpenSpec.ofChange floNextWrong)

/-- 'overtonelaw03.FloScale': WHATEVER THE INPUT: true; the input reads as it did. -/
def floScaleSpec : ChangeSpec := { name := "floScale", fn := fun _ => fun
  | [d1, d2] => { results := [.lit (.bool true)], args := [d1, d2] }
  | _ => none }
def floScaleRow : OpenClaim := { program := "ytdfkhaajeojeeaadoor", sum := "5fefa66ff8475cf4a84039cfc3fcb7a270701521eb3b86da945998ec2df4a99f", func := "overtone/overtonelaw03.FloScale", spec := "floScale", inPlace := ["math.Float64bits", "math.Float64frombits"], unfollowed := true, recurses := true, named := ["overtone/flo.notNumber", "math/bits.deBruijn32tab", "math/bits.deBruijn64tab", "overtone/flo.infinity"], apart := false, laid := [("math/bits.deBruijn32tab", laid_math_bits_deBruijn32tab), ("math/bits.deBruijn64tab", laid_math_bits_deBruijn64tab), ("overtone/flo.infinity", laid_overtone_flo_infinity), ("overtone/flo.notNumber", laid_overtone_flo_notNumber)] }
def FloScaleSaid : Prop := floScaleRow.holds Tryd.pinned (OpenSpec.ofChange floScaleSpec)

/-- ITS FALSE NEIGHBOUR: 'it returns false'. Refute it at one input. -/
def floScaleWrong : ChangeSpec := { name := "floScale", fn := fun _ => fun
  | [d1, d2] => { results := [.lit (.bool false)], args := [d1, d2] }
  | _ => none }
def FloScaleWrongFalsely : Prop := floScaleRow.holds Tryd.pinned (OpenSpec.ofChange floScaleWrong)

/- THE SECOND FORM. 'bulk': how many values and letters a reading holds, each counted each time it is reached (what is shared counts as often as it is met; a slice's spare places count too). A statement '..UptoSaid' is the law's where the arguments, and the package variables that the reading takes, are together of bulk at most 1048576: NARROWER than '..Said'. Prove '..Said' where nothing that the law and all that it calls make is longer than what came in: it says more and counts as full. Else prove '..UptoSaid'. A law counts once. -/
mutual
def uptoBulk {H : Type} : DataW H → Nat
  | .lit (.string bytes) => bytes.length + 1
  | .lit _ => 1
  | .nil => 1
  | .ptr d => uptoBulk d + 1
  | .slice elems spare => uptoBulkAll elems + uptoBulkAll spare + 1
  | .agg parts => uptoBulkAll parts + 1
  | .iface _ d => uptoBulk d + 1
  | .map entries => uptoBulkEntries entries + 1
  | .held _ => 1
def uptoBulkAll {H : Type} : List (DataW H) → Nat
  | [] => 0
  | d :: r => uptoBulk d + uptoBulkAll r
def uptoBulkEntries {H : Type} : List (Lit × DataW H) → Nat
  | [] => 0
  | x :: r => uptoBulkEntry x + uptoBulkEntries r
def uptoBulkEntry {H : Type} : Lit × DataW H → Nat
  | (.string bytes, d) => bytes.length + uptoBulk d + 1
  | (_, d) => uptoBulk d + 1
 end
def uptoSmall : (H : Type) → List (DataW H) → Bool := fun _ ds => decide (uptoBulkAll ds ≤ 1048576)
def OpenSpec.upto (s : _root_.Go.ChangeSpec) : _root_.Go.OpenSpec := { _root_.Go.OpenSpec.ofChange s with cond := some uptoSmall }

/-- 'overtonelaw03.FloTells', WHERE WHAT IT READS IS OF BULK AT MOST 1048576: true; the input reads as it did. -/
def floTellsUptoRow : OpenClaim := { program := "ytdfkhaajeojeeaadoor", sum := "5fefa66ff8475cf4a84039cfc3fcb7a270701521eb3b86da945998ec2df4a99f", func := "overtone/overtonelaw03.FloTells", spec := "floTells", inPlace := ["math.Float64bits", "math.Float64frombits"], unfollowed := true, recurses := true, named := ["overtone/flo.notNumber", "math/bits.deBruijn32tab", "math/bits.deBruijn64tab", "overtone/flo.infinity"], apart := false, laid := [("math/bits.deBruijn32tab", laid_math_bits_deBruijn32tab), ("math/bits.deBruijn64tab", laid_math_bits_deBruijn64tab), ("overtone/flo.infinity", laid_overtone_flo_infinity), ("overtone/flo.notNumber", laid_overtone_flo_notNumber)], narrowed := true }
def FloTellsUptoSaid : Prop := floTellsUptoRow.holds Tryd.pinned (OpenSpec.upto floTellsSpec)

/-- 'overtonelaw03.FloBack', WHERE WHAT IT READS IS OF BULK AT MOST 1048576: true; the input reads as it did. -/
def floBackUptoRow : OpenClaim := { program := "ytdfkhaajeojeeaadoor", sum := "5fefa66ff8475cf4a84039cfc3fcb7a270701521eb3b86da945998ec2df4a99f", func := "overtone/overtonelaw03.FloBack", spec := "floBack", inPlace := ["math.Float64bits", "math.Float64frombits"], unfollowed := true, recurses := true, named := ["overtone/flo.notNumber", "math/bits.deBruijn32tab", "math/bits.deBruijn64tab", "overtone/flo.infinity"], apart := false, laid := [("math/bits.deBruijn32tab", laid_math_bits_deBruijn32tab), ("math/bits.deBruijn64tab", laid_math_bits_deBruijn64tab), ("overtone/flo.infinity", laid_overtone_flo_infinity), ("overtone/flo.notNumber", laid_overtone_flo_notNumber)], narrowed := true }
def FloBackUptoSaid : Prop := floBackUptoRow.holds Tryd.pinned (OpenSpec.upto floBackSpec)

/-- 'overtonelaw03.FloNear', WHERE WHAT IT READS IS OF BULK AT MOST 1048576: true; the input reads as it did. -/
def floNearUptoRow : OpenClaim := { program := "ytdfkhaajeojeeaadoor", sum := "5fefa66ff8475cf4a84039cfc3fcb7a270701521eb3b86da945998ec2df4a99f", func := "overtone/overtonelaw03.FloNear", spec := "floNear", inPlace := ["math.Float64bits", "math.Float64frombits"], unfollowed := true, recurses := true, named := ["overtone/flo.notNumber", "math/bits.deBruijn32tab", "math/bits.deBruijn64tab", "overtone/flo.infinity"], apart := false, laid := [("math/bits.deBruijn32tab", laid_math_bits_deBruijn32tab), ("math/bits.deBruijn64tab", laid_math_bits_deBruijn64tab), ("overtone/flo.infinity", laid_overtone_flo_infinity), ("overtone/flo.notNumber", laid_overtone_flo_notNumber)], narrowed := true }
def FloNearUptoSaid : Prop := floNearUptoRow.holds Tryd.pinned (OpenSpec.upto floNearSpec)

/-- 'overtonelaw03.FloOrder', WHERE WHAT IT READS IS OF BULK AT MOST 1048576: true; the input reads as it did. -/
def floOrderUptoRow : OpenClaim := { program := "ytdfkhaajeojeeaadoor", sum := "5fefa66ff8475cf4a84039cfc3fcb7a270701521eb3b86da945998ec2df4a99f", func := "overtone/overtonelaw03.FloOrder", spec := "floOrder", inPlace := ["math.Float64bits", "math.Float64frombits"], unfollowed := true, recurses := true, named := ["overtone/flo.notNumber", "math/bits.deBruijn32tab", "math/bits.deBruijn64tab", "overtone/flo.infinity"], apart := false, laid := [("math/bits.deBruijn32tab", laid_math_bits_deBruijn32tab), ("math/bits.deBruijn64tab", laid_math_bits_deBruijn64tab), ("overtone/flo.infinity", laid_overtone_flo_infinity), ("overtone/flo.notNumber", laid_overtone_flo_notNumber)], narrowed := true }
def FloOrderUptoSaid : Prop := floOrderUptoRow.holds Tryd.pinned (OpenSpec.upto floOrderSpec)

/-- 'overtonelaw03.FloNext', WHERE WHAT IT READS IS OF BULK AT MOST 1048576: true; the input reads as it did. -/
def floNextUptoRow : OpenClaim := { program := "ytdfkhaajeojeeaadoor", sum := "5fefa66ff8475cf4a84039cfc3fcb7a270701521eb3b86da945998ec2df4a99f", func := "overtone/overtonelaw03.FloNext", spec := "floNext", inPlace := ["math.Float64bits", "math.Float64frombits"], unfollowed := true, recurses := true, named := ["overtone/flo.notNumber", "math/bits.deBruijn32tab", "math/bits.deBruijn64tab", "overtone/flo.infinity"], apart := false, laid := [("math/bits.deBruijn32tab", laid_math_bits_deBruijn32tab), ("math/bits.deBruijn64tab", laid_math_bits_deBruijn64tab), ("overtone/flo.infinity", laid_overtone_flo_infinity), ("overtone/flo.notNumber", laid_overtone_flo_notNumber)], narrowed := true }
def FloNextUptoSaid : Prop := floNextUptoRow.holds Tryd.pinned (OpenSpec.upto floNextSpec)

/-- 'overtonelaw03.FloScale', WHERE WHAT IT READS IS OF BULK AT MOST 1048576: true; the input reads as it did. -/
def floScaleUptoRow : OpenClaim := { program := "ytdfkhaajeojeeaadoor", sum := "5fefa66ff8475cf4a84039cfc3fcb7a270701521eb3b86da945998ec2df4a99f", func := "overtone/overtonelaw03.FloScale", spec := "floScale", inPlace := ["math.Float64bits", "math.Float64frombits"], unfollowed := true, recurses := true, named := ["overtone/flo.notNumber", "math/bits.deBruijn32tab", "math/bits.deBruijn64tab", "overtone/flo.infinity"], apart := false, laid := [("math/bits.deBruijn32tab", laid_math_bits_deBruijn32tab), ("math/bits.deBruijn64tab", laid_math_bits_deBruijn64tab), ("overtone/flo.infinity", laid_overtone_flo_infinity), ("overtone/flo.notNumber", laid_overtone_flo_notNumber)], narrowed := true }
def FloScaleUptoSaid : Prop := floScaleUptoRow.holds Tryd.pinned (OpenSpec.upto floScaleSpec)

end Rows
end Go.Proofs.YtdfkhaajeojeeaaDoor
