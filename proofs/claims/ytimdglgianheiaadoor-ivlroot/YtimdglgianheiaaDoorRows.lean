/-
  NARROWER THAN 'FOR EVERY INPUT', by the rows' own cells (each row's printed sentence says how): IvlKept: laid · IvlEnds: laid · IvlInside: laid · IvlRoot: laid · IvlPoint: laid.
  DERIVED. THE GIVEN ROWS OF THIS SEAT. 5 by the template 'for every input the law returns true; each argument reads behind the call as it read before'; 0 by the template 'total and deterministic' (their statements: YtimdglgianheiaaDoorTotals.lean).
  GIVEN WITH THE SEED: the statements are not yours to turn. If you find one false, say at which input.
  Laid BY PROGRAM, IN A SANDBOX (cutbox-rows.mjs): the forced cells as the released guide's own fill.sh prints them over the translation ecc9ac9696edd5a2… (all of the seat's roots in one cut). By AI agents, Wed Nov 11 2026. No macro, syntax, notation, axiom, sorry.
-/
import Derived.Test.YtimdglgianheiaaDoorChecked
import GoSem.Claim
import GoSem.ClaimJoined
import GoSem.ClaimMapViews
import Derived.JoinedTies
import Derived.KernelRfl
namespace Go.Proofs.YtimdglgianheiaaDoor
/- THE CELL 'sum', in the pinned program and in every row, IS THE sha256 OF THE DUMP (.gsa) THAT YtimdglgianheiaaDoorProg.lean LOADS. Nothing in Lean hashes anything: it is a label: what it is worth is what the hold of that sum in a sandbox is worth. -/
noncomputable def Tryd.pinned : Pinned := { name := "ytimdglgianheiaadoor", sum := "ecc9ac9696edd5a243ebab083136874f7d1bbdb66a61d7590bb28c5c3cb303fa", checked := Tryd.checked }
namespace Rows
def none {H : Type} : Left H := { results := [], args := [] }

/- WHAT THE LISTED PACKAGE-LEVEL VARIABLES READ AS WHEN THE CALL BEGINS. Each datum BY PROGRAM (the guide's laid-datum.mjs) off the statement by which the dump's own 'gosem.cut.vars' lays the variable. In a bare row this is a premise. The card (YtimdglgianheiaaDoorCards.lean) ties it to the program's text. -/
def laid_math_bits_deBruijn32tab {H : Type} : DataW H := .agg [.lit (.int .u8 0), .lit (.int .u8 1), .lit (.int .u8 28), .lit (.int .u8 2), .lit (.int .u8 29), .lit (.int .u8 14), .lit (.int .u8 24), .lit (.int .u8 3), .lit (.int .u8 30), .lit (.int .u8 22), .lit (.int .u8 20), .lit (.int .u8 15), .lit (.int .u8 25), .lit (.int .u8 17), .lit (.int .u8 4), .lit (.int .u8 8), .lit (.int .u8 31), .lit (.int .u8 27), .lit (.int .u8 13), .lit (.int .u8 23), .lit (.int .u8 21), .lit (.int .u8 19), .lit (.int .u8 16), .lit (.int .u8 7), .lit (.int .u8 26), .lit (.int .u8 12), .lit (.int .u8 18), .lit (.int .u8 6), .lit (.int .u8 11), .lit (.int .u8 5), .lit (.int .u8 10), .lit (.int .u8 9)]
def laid_math_bits_deBruijn64tab {H : Type} : DataW H := .agg [.lit (.int .u8 0), .lit (.int .u8 1), .lit (.int .u8 56), .lit (.int .u8 2), .lit (.int .u8 57), .lit (.int .u8 49), .lit (.int .u8 28), .lit (.int .u8 3), .lit (.int .u8 61), .lit (.int .u8 58), .lit (.int .u8 42), .lit (.int .u8 50), .lit (.int .u8 38), .lit (.int .u8 29), .lit (.int .u8 17), .lit (.int .u8 4), .lit (.int .u8 62), .lit (.int .u8 47), .lit (.int .u8 59), .lit (.int .u8 36), .lit (.int .u8 45), .lit (.int .u8 43), .lit (.int .u8 51), .lit (.int .u8 22), .lit (.int .u8 53), .lit (.int .u8 39), .lit (.int .u8 33), .lit (.int .u8 30), .lit (.int .u8 24), .lit (.int .u8 18), .lit (.int .u8 12), .lit (.int .u8 5), .lit (.int .u8 63), .lit (.int .u8 55), .lit (.int .u8 48), .lit (.int .u8 27), .lit (.int .u8 60), .lit (.int .u8 41), .lit (.int .u8 37), .lit (.int .u8 16), .lit (.int .u8 46), .lit (.int .u8 35), .lit (.int .u8 44), .lit (.int .u8 21), .lit (.int .u8 52), .lit (.int .u8 32), .lit (.int .u8 23), .lit (.int .u8 11), .lit (.int .u8 54), .lit (.int .u8 26), .lit (.int .u8 40), .lit (.int .u8 15), .lit (.int .u8 34), .lit (.int .u8 20), .lit (.int .u8 31), .lit (.int .u8 10), .lit (.int .u8 25), .lit (.int .u8 14), .lit (.int .u8 19), .lit (.int .u8 9), .lit (.int .u8 13), .lit (.int .u8 8), .lit (.int .u8 7), .lit (.int .u8 6)]

/-- 'overtonelaw05.IvlKept': WHATEVER THE INPUT: true; the input reads as it did. -/
def ivlKeptSpec : ChangeSpec := { name := "ivlKept", fn := fun _ => fun
  | [d1, d2, d3, d4, d5] => { results := [.lit (.bool true)], args := [d1, d2, d3, d4, d5] }
  | _ => none }
def ivlKeptRow : OpenClaim := { program := "ytimdglgianheiaadoor", sum := "ecc9ac9696edd5a243ebab083136874f7d1bbdb66a61d7590bb28c5c3cb303fa", func := "overtone/overtonelaw05.IvlKept", spec := "ivlKept", unfollowed := true, recurses := true, named := ["math/bits.deBruijn32tab", "math/bits.deBruijn64tab"], apart := false, laid := [("math/bits.deBruijn32tab", laid_math_bits_deBruijn32tab), ("math/bits.deBruijn64tab", laid_math_bits_deBruijn64tab)] }
def IvlKeptSaid : Prop := ivlKeptRow.holds Tryd.pinned (OpenSpec.ofChange ivlKeptSpec)

/-- ITS FALSE NEIGHBOUR: 'it returns false'. Refute it at one input. -/
def ivlKeptWrong : ChangeSpec := { name := "ivlKept", fn := fun _ => fun
  | [d1, d2, d3, d4, d5] => { results := [.lit (.bool false)], args := [d1, d2, d3, d4, d5] }
  | _ => none }
def IvlKeptWrongFalsely : Prop := ivlKeptRow.holds Tryd.pinned (OpenSpec.ofChange ivlKeptWrong)

/-- 'overtonelaw05.IvlEnds': WHATEVER THE INPUT: true; the input reads as it did. -/
def ivlEndsSpec : ChangeSpec := { name := "ivlEnds", fn := fun _ => fun
  | [d1, d2] => { results := [.lit (.bool true)], args := [d1, d2] }
  | _ => none }
def ivlEndsRow : OpenClaim := { program := "ytimdglgianheiaadoor", sum := "ecc9ac9696edd5a243ebab083136874f7d1bbdb66a61d7590bb28c5c3cb303fa", func := "overtone/overtonelaw05.IvlEnds", spec := "ivlEnds", unfollowed := true, recurses := true, named := ["math/bits.deBruijn32tab", "math/bits.deBruijn64tab"], apart := false, laid := [("math/bits.deBruijn32tab", laid_math_bits_deBruijn32tab), ("math/bits.deBruijn64tab", laid_math_bits_deBruijn64tab)] }
def IvlEndsSaid : Prop := ivlEndsRow.holds Tryd.pinned (OpenSpec.ofChange ivlEndsSpec)

/-- ITS FALSE NEIGHBOUR: 'it returns false'. Refute it at one input. -/
def ivlEndsWrong : ChangeSpec := { name := "ivlEnds", fn := fun _ => fun
  | [d1, d2] => { results := [.lit (.bool false)], args := [d1, d2] }
  | _ => none }
def IvlEndsWrongFalsely : Prop := ivlEndsRow.holds Tryd.pinned (OpenSpec.ofChange ivlEndsWrong)

/-- 'overtonelaw05.IvlInside': WHATEVER THE INPUT: true; the input reads as it did. -/
def ivlInsideSpec : ChangeSpec := { name := "ivlInside", fn := fun _ => fun
  | [d1, d2, d3, d4] => { results := [.lit (.bool true)], args := [d1, d2, d3, d4] }
  | _ => none }
def ivlInsideRow : OpenClaim := { program := "ytimdglgianheiaadoor", sum := "ecc9ac9696edd5a243ebab083136874f7d1bbdb66a61d7590bb28c5c3cb303fa", func := "overtone/overtonelaw05.IvlInside", spec := "ivlInside", unfollowed := true, recurses := true, named := ["math/bits.deBruijn32tab", "math/bits.deBruijn64tab"], apart := false, laid := [("math/bits.deBruijn32tab", laid_math_bits_deBruijn32tab), ("math/bits.deBruijn64tab", laid_math_bits_deBruijn64tab)] }
def IvlInsideSaid : Prop := ivlInsideRow.holds Tryd.pinned (OpenSpec.ofChange ivlInsideSpec)

/-- ITS FALSE NEIGHBOUR: 'it returns false'. Refute it at one input. -/
def ivlInsideWrong : ChangeSpec := { name := "ivlInside", fn := fun _ => fun
  | [d1, d2, d3, d4] => { results := [.lit (.bool false)], args := [d1, d2, d3, d4] }
  | _ => none }
def IvlInsideWrongFalsely : Prop := ivlInsideRow.holds Tryd.pinned (OpenSpec.ofChange ivlInsideWrong)

/-- 'overtonelaw05.IvlRoot': WHATEVER THE INPUT: true; the input reads as it did. -/
def ivlRootSpec : ChangeSpec := { name := "ivlRoot", fn := fun _ => fun
  | [d1, d2] => { results := [.lit (.bool true)], args := [d1, d2] }
  | _ => none }
def ivlRootRow : OpenClaim := { program := "ytimdglgianheiaadoor", sum := "ecc9ac9696edd5a243ebab083136874f7d1bbdb66a61d7590bb28c5c3cb303fa", func := "overtone/overtonelaw05.IvlRoot", spec := "ivlRoot", unfollowed := true, recurses := true, named := ["math/bits.deBruijn32tab", "math/bits.deBruijn64tab"], apart := false, laid := [("math/bits.deBruijn32tab", laid_math_bits_deBruijn32tab), ("math/bits.deBruijn64tab", laid_math_bits_deBruijn64tab)] }
def IvlRootSaid : Prop := ivlRootRow.holds Tryd.pinned (OpenSpec.ofChange ivlRootSpec)

/-- ITS FALSE NEIGHBOUR: 'it returns false'. Refute it at one input. -/
def ivlRootWrong : ChangeSpec := { name := "ivlRoot", fn := fun _ => fun
  | [d1, d2] => { results := [.lit (.bool false)], args := [d1, d2] }
  | _ => none }
def IvlRootWrongFalsely : Prop := ivlRootRow.holds Tryd.pinned (OpenSpec.ofChange ivlRootWrong)

/-- 'overtonelaw05.IvlPoint': WHATEVER THE INPUT: true; the input reads as it did. -/
def ivlPointSpec : ChangeSpec := { name := "ivlPoint", fn := fun _ => fun
  | [d1, d2] => { results := [.lit (.bool true)], args := [d1, d2] }
  | _ => none }
def ivlPointRow : OpenClaim := { program := "ytimdglgianheiaadoor", sum := "ecc9ac9696edd5a243ebab083136874f7d1bbdb66a61d7590bb28c5c3cb303fa", func := "overtone/overtonelaw05.IvlPoint", spec := "ivlPoint", unfollowed := true, recurses := true, named := ["math/bits.deBruijn32tab", "math/bits.deBruijn64tab"], apart := false, laid := [("math/bits.deBruijn32tab", laid_math_bits_deBruijn32tab), ("math/bits.deBruijn64tab", laid_math_bits_deBruijn64tab)] }
def IvlPointSaid : Prop := ivlPointRow.holds Tryd.pinned (OpenSpec.ofChange ivlPointSpec)

/-- ITS FALSE NEIGHBOUR: 'it returns false'. Refute it at one input. -/
def ivlPointWrong : ChangeSpec := { name := "ivlPoint", fn := fun _ => fun
  | [d1, d2] => { results := [.lit (.bool false)], args := [d1, d2] }
  | _ => none }
def IvlPointWrongFalsely : Prop := ivlPointRow.holds Tryd.pinned (OpenSpec.ofChange ivlPointWrong)

/- THE SECOND FORM. 'bulk': how many values and letters a reading holds, each counted each time it is reached (what is shared counts as often as it is met; a slice's spare places count too). A statement '..UptoSaid' is the law's where the arguments, and the package variables that the reading takes, are together of bulk at most 1048576: NARROWER than '..Said'. Prove '..Said' where nothing that the law and all that it calls make is longer than what came in: it says more and counts as full. Else prove '..UptoSaid'. A law counts once. -/
mutual
def uptoBulk {H : Type} : DataW H → Nat
  | .lit (.string bytes) => bytes.length + 1
  | .lit _ => 1
  | .nil => 1
  | .ptr d => uptoBulk d + 1
  | .slice elems spare => uptoBulkAll elems + uptoBulkAll spare + 1
  | .agg parts => uptoBulkAll parts + 1
  | .iface _ d => uptoBulk d + 1
  | .map entries => uptoBulkEntries entries + 1
  | .held _ => 1
def uptoBulkAll {H : Type} : List (DataW H) → Nat
  | [] => 0
  | d :: r => uptoBulk d + uptoBulkAll r
def uptoBulkEntries {H : Type} : List (Lit × DataW H) → Nat
  | [] => 0
  | x :: r => uptoBulkEntry x + uptoBulkEntries r
def uptoBulkEntry {H : Type} : Lit × DataW H → Nat
  | (.string bytes, d) => bytes.length + uptoBulk d + 1
  | (_, d) => uptoBulk d + 1
 end
def uptoSmall : (H : Type) → List (DataW H) → Bool := fun _ ds => decide (uptoBulkAll ds ≤ 1048576)
def OpenSpec.upto (s : _root_.Go.ChangeSpec) : _root_.Go.OpenSpec := { _root_.Go.OpenSpec.ofChange s with cond := some uptoSmall }

/-- 'overtonelaw05.IvlKept', WHERE WHAT IT READS IS OF BULK AT MOST 1048576: true; the input reads as it did. -/
def ivlKeptUptoRow : OpenClaim := { program := "ytimdglgianheiaadoor", sum := "ecc9ac9696edd5a243ebab083136874f7d1bbdb66a61d7590bb28c5c3cb303fa", func := "overtone/overtonelaw05.IvlKept", spec := "ivlKept", unfollowed := true, recurses := true, named := ["math/bits.deBruijn32tab", "math/bits.deBruijn64tab"], apart := false, laid := [("math/bits.deBruijn32tab", laid_math_bits_deBruijn32tab), ("math/bits.deBruijn64tab", laid_math_bits_deBruijn64tab)], narrowed := true }
def IvlKeptUptoSaid : Prop := ivlKeptUptoRow.holds Tryd.pinned (OpenSpec.upto ivlKeptSpec)

/-- 'overtonelaw05.IvlEnds', WHERE WHAT IT READS IS OF BULK AT MOST 1048576: true; the input reads as it did. -/
def ivlEndsUptoRow : OpenClaim := { program := "ytimdglgianheiaadoor", sum := "ecc9ac9696edd5a243ebab083136874f7d1bbdb66a61d7590bb28c5c3cb303fa", func := "overtone/overtonelaw05.IvlEnds", spec := "ivlEnds", unfollowed := true, recurses := true, named := ["math/bits.deBruijn32tab", "math/bits.deBruijn64tab"], apart := false, laid := [("math/bits.deBruijn32tab", laid_math_bits_deBruijn32tab), ("math/bits.deBruijn64tab", laid_math_bits_deBruijn64tab)], narrowed := true }
def IvlEndsUptoSaid : Prop := ivlEndsUptoRow.holds Tryd.pinned (OpenSpec.upto ivlEndsSpec)

/-- 'overtonelaw05.IvlInside', WHERE WHAT IT READS IS OF BULK AT MOST 1048576: true; the input reads as it did. -/
def ivlInsideUptoRow : OpenClaim := { program := "ytimdglgianheiaadoor", sum := "ecc9ac9696edd5a243ebab083136874f7d1bbdb66a61d7590bb28c5c3cb303fa", func := "overtone/overtonelaw05.IvlInside", spec := "ivlInside", unfollowed := true, recurses := true, named := ["math/bits.deBruijn32tab", "math/bits.deBruijn64tab"], apart := false, laid := [("math/bits.deBruijn32tab", laid_math_bits_deBruijn32tab), ("math/bits.deBruijn64tab", laid_math_bits_deBruijn64tab)], narrowed := true }
def IvlInsideUptoSaid : Prop := ivlInsideUptoRow.holds Tryd.pinned (OpenSpec.upto ivlInsideSpec)

/-- 'overtonelaw05.IvlRoot', WHERE WHAT IT READS IS OF BULK AT MOST 1048576: true; the input reads as it did. -/
def ivlRootUptoRow : OpenClaim := { program := "ytimdglgianheiaadoor", sum := "ecc9ac9696edd5a243ebab083136874f7d1bbdb66a61d7590bb28c5c3cb303fa", func := "overtone/overtonelaw05.IvlRoot", spec := "ivlRoot", unfollowed := true, recurses := true, named := ["math/bits.deBruijn32tab", "math/bits.deBruijn64tab"], apart := false, laid := [("math/bits.deBruijn32tab", laid_math_bits_deBruijn32tab), ("math/bits.deBruijn64tab", laid_math_bits_deBruijn64tab)], narrowed := true }
def IvlRootUptoSaid : Prop := ivlRootUptoRow.holds Tryd.pinned (OpenSpec.upto ivlRootSpec)

/-- 'overtonelaw05.IvlPoint', WHERE WHAT IT READS IS OF BULK AT MOST 1048576: true; the input reads as it did. -/
def ivlPointUptoRow : OpenClaim := { program := "ytimdglgianheiaadoor", sum := "ecc9ac9696edd5a243ebab083136874f7d1bbdb66a61d7590bb28c5c3cb303fa", func := "overtone/overtonelaw05.IvlPoint", spec := "ivlPoint", unfollowed := true, recurses := true, named := ["math/bits.deBruijn32tab", "math/bits.deBruijn64tab"], apart := false, laid := [("math/bits.deBruijn32tab", laid_math_bits_deBruijn32tab), ("math/bits.deBruijn64tab", laid_math_bits_deBruijn64tab)], narrowed := true }
def IvlPointUptoSaid : Prop := ivlPointUptoRow.holds Tryd.pinned (OpenSpec.upto ivlPointSpec)

end Rows
end Go.Proofs.YtimdglgianheiaaDoor
