/- The frame of a row's proof over what the program's variables hold: the tables of math/bits, flo.infinity, flo.notNumber. -/
import Derived.Test.YtdfkhaajeojeeaaDoorFl
import Derived.Test.YtdfkhaajeojeeaaDoorMK
import Derived.Laws.Cover2
namespace Go.Proofs.YtdfkhaajeojeeaaDoor
open Go.ChangeShapes Go.WideShapes Go.ChangeAt Go.RowKit

/-- What the row lists. -/
def laidFlo : List (String × DataW Unit) := [("math/bits.deBruijn32tab", Rows.laid_math_bits_deBruijn32tab), ("math/bits.deBruijn64tab", Rows.laid_math_bits_deBruijn64tab), ("overtone/flo.infinity", Rows.laid_overtone_flo_infinity), ("overtone/flo.notNumber", Rows.laid_overtone_flo_notNumber)]
theorem gInf : Tryd.prog.globalNamed "overtone/flo.infinity" = some 1 := by kernel_rfl
theorem tInf : (Tryd.prog.globals[1]?).map (·.type) = some 50 := by kernel_rfl
theorem gNot : Tryd.prog.globalNamed "overtone/flo.notNumber" = some 0 := by kernel_rfl
theorem tNot : (Tryd.prog.globals[0]?).map (·.type) = some 50 := by kernel_rfl
theorem cellsI : Tryd.prog.cellsOf 3 = 1 := by kernel_rfl
theorem cellsP : Tryd.prog.cellsOf 50 = 3 := by kernel_rfl
theorem tg_of_laid {W : World} (h : laidMetH Tryd.prog laidFlo W) : Tg W := by
  rw [MakeChecks.laidMetH_plain _ _ _ (by kernel_rfl)] at h
  have h2 : laidMet Tryd.prog (("math/bits.deBruijn64tab", Lib.tabData .u8 (Lib.deBruijn64tab.map Int.ofNat)) :: [("overtone/flo.infinity", Rows.laid_overtone_flo_infinity), ("overtone/flo.notNumber", Rows.laid_overtone_flo_notNumber)]) W := laidMet.tail h
  have h3 : laidMet Tryd.prog (("overtone/flo.infinity", Lib.tabData .i64 [0, 2047, 0]) :: [("overtone/flo.notNumber", Rows.laid_overtone_flo_notNumber)]) W := laidMet.tail h2
  have h4 : laidMet Tryd.prog (("overtone/flo.notNumber", Lib.tabData .i64 [0, 2047, 1]) :: []) W := laidMet.tail h3
  have hT := Lib.tabIs_of_head g64 t64 Tryd.underlying90 Tryd.underlying5 cells8 cells64 h2
  have hI := Lib.tabIs_of_head gInf tInf Tryd.underlying50 Tryd.underlying3 cellsI cellsP h3
  have hN := Lib.tabIs_of_head gNot tNot Tryd.underlying50 Tryd.underlying3 cellsI cellsP h4
  refine ⟨⟨fun i hi => ?_⟩, hN.cell gNot 0 (by decide), hN.cell gNot 1 (by decide), hN.cell gNot 2 (by decide), hI.cell gInf 0 (by decide), hI.cell gInf 1 (by decide), hI.cell gInf 2 (by decide)⟩
  have hl : (Lib.deBruijn64tab.map Int.ofNat).length = 64 := by rw [List.length_map]; rfl
  have hl' : Lib.deBruijn64tab.length = 64 := rfl
  have := hT.cell g64 i (by omega)
  rw [this]
  congr 2
  rw [List.getD_eq_getElem?_getD, List.getD_eq_getElem?_getD, List.getElem?_map, List.getElem?_eq_getElem (by omega)]
  rfl
/-- The door's own heap meets the condition. -/
theorem doorF_met (os : Os) (args : Array Value) : laidMetH Tryd.prog laidFlo ((World.doorLaid Tryd.prog 400 os).forCall (fun _ _ => 0) ⟨#[], args, []⟩).memory :=
  laidMetH_of_parts3 (fuel := 8) (laidMet_of_run' 8 (by kernel_rfl) (by kernel_rfl)) (by kernel_rfl) (by kernel_rfl)
theorem float_lt {b : Nat} (h : (Lit.float .f64 b).wf = true) : b < 18446744073709551616 := by
  simpa [Lit.wf] using h

end Go.Proofs.YtdfkhaajeojeeaaDoor
