/- The frame of a row's proof over the table of math/bits. -/
import Derived.Test.YtimdglgianheiaaGreatDoorFr
import Derived.Test.YtimdglgianheiaaGreatDoorME
import Derived.LaidMore
import Derived.Lib.LaidTab
import Derived.Stop.LaidErr
import Derived.Stop.Joined
import Derived.Lib.SmallJoins
namespace Go.Proofs.YtimdglgianheiaaGreatDoor
open Go.ChangeShapes Go.WideShapes Go.ChangeAt Go.RowKit

/-- What the row lists. -/
def laidBits : List (String × DataW Unit) := [("math/bits.deBruijn32tab", Rows.laid_math_bits_deBruijn32tab), ("math/bits.deBruijn64tab", Rows.laid_math_bits_deBruijn64tab)]
theorem g64 : Tryz.prog.globalNamed "math/bits.deBruijn64tab" = some 1 := by kernel_rfl
theorem t64 : (Tryz.prog.globals[1]?).map (·.type) = some 99 := by kernel_rfl
theorem cells8 : Tryz.prog.cellsOf 5 = 1 := by kernel_rfl
theorem cells64 : Tryz.prog.cellsOf 99 = 64 := by kernel_rfl
theorem tb_of_laid {W : World} (h : laidMetH Tryz.prog laidBits W) : Tb W := by
  rw [MakeChecks.laidMetH_plain _ _ _ (by kernel_rfl)] at h
  have h2 : laidMet Tryz.prog [("math/bits.deBruijn64tab", Lib.tabData .u8 (Lib.deBruijn64tab.map Int.ofNat))] W := laidMet.tail h
  have hT := Lib.tabIs_of_head g64 t64 Tryz.underlying99 Tryz.underlying5 cells8 cells64 h2
  refine ⟨fun i hi => ?_⟩
  have hl : (Lib.deBruijn64tab.map Int.ofNat).length = 64 := by rw [List.length_map]; rfl
  have hl' : Lib.deBruijn64tab.length = 64 := rfl
  have := hT.cell g64 i (by omega)
  rw [this]
  congr 2
  rw [List.getD_eq_getElem?_getD, List.getD_eq_getElem?_getD, List.getElem?_map, List.getElem?_eq_getElem (by omega)]
  rfl
/-- The door's own heap meets the condition. -/
theorem door_met (os : Os) (args : Array Value) : laidMetH Tryz.prog laidBits ((World.doorLaid Tryz.prog 400 os).forCall (fun _ _ => 0) ⟨#[], args, []⟩).memory :=
  laidMetH_of_parts3 (fuel := 8) (laidMet_of_run' 8 (by kernel_rfl) (by kernel_rfl)) (by kernel_rfl) (by kernel_rfl)

theorem cellsDya : Tryz.prog.cellsOf 24 = 3 := by kernel_rfl
/-- A dyadic number that came in. -/
theorem dya_in {H : Type} {enc : TypeId × Value → H} {W : World} {base : Nat} {v : Value} {d : DataW H} {ps : List MemPlace}
    (hok : Value.okWide Tryz.prog W .any base 24 v) (h : DataW.Trod enc Tryz.prog W 0 (fun _ => true) true 24 v d ps) :
    ∃ (nb : Bool) (M : Value) (xs : List Int) (e : Int), v = .agg #[.bool nb, M, .int .i64 e] ∧ Row W M xs ∧ -9223372036854775808 ≤ e ∧ e ≤ 9223372036854775807 := by
  obtain ⟨c0, c1, c2, y0, y1, y2, m, rfl, rfl, rfl, hy0, hy1, hy2⟩ := Joins.open_agg3 Tryz.underlying24 (by kernel_rfl) cellsDya hok h
  obtain ⟨b, e0, _⟩ := DataW.trod_bool Tryz.underlying4 hy0
  obtain ⟨z, e2, _, wz⟩ := DataW.trod_int Tryz.underlying3 hy2
  simp at e0 e2
  subst e0 e2
  have hb := bounds_i64 wz
  rcases open_ints Tryz.underlying22 Tryz.underlying3 (by kernel_rfl) hy1 with ⟨hcs, _⟩ | ⟨x, len, cap, zs, hcs, _, hl, hm, hz, _, hcell, _⟩
  · simp at hcs
    subst hcs
    exact ⟨b, _, [], z, rfl, Row.nil W none 0 (by simp [maxLen]), hb⟩
  · simp at hcs
    subst hcs
    have hz : zs.length = cap := by simpa using hz
    have hlen : (zs.take len).length = len := by rw [List.length_take]; omega
    refine ⟨b, _, zs.take len, z, rfl, ⟨_, cap, by rw [hlen], by omega, hm, fun hp => ?_⟩, hb⟩
    obtain ⟨blk, off, spot⟩ := x
    have h0 := hcell 0 (by omega)
    have hspot : spot = none := by simpa [Addr.add] using World.cell?_spot h0
    subst hspot
    have h0' := World.block_lt_of_cell? W _ h0
    refine ⟨blk, off, rfl, by simpa [Addr.add] using h0', fun j hj => ?_⟩
    have hj' : j < zs.length := by omega
    have := hcell j hj'
    rw [Addr.add_lit] at this
    rw [this, nth_eq hj, List.getElem_take, List.getD_eq_getElem?_getD, List.getElem?_eq_getElem hj']
    rfl
theorem dya_back {H : Type} {enc : TypeId × Value → H} {W W' : World} {v : Value} {d : DataW H} {ps : List MemPlace}
    (h : DataW.Trod enc Tryz.prog W 0 (fun _ => true) true 24 v d ps) (bel : Ext W W') : DataW.Trod enc Tryz.prog W' 0 (fun b => decide (b < W.heap.size)) true 24 v d ps :=
  Below.trod laidOut (by kernel_rfl) (of_decide_eq_true (by kernel_rfl)) h bel (by obtain ⟨m, hm⟩ := h; exact DataW.trod_lt m _ _ _ hm)

end Go.Proofs.YtimdglgianheiaaGreatDoor
