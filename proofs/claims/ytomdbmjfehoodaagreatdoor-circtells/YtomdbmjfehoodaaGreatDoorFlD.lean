/- Dyadic numbers that come in and lie there still, over any table. -/
import Derived.Test.YtomdbmjfehoodaaGreatDoorFr
import Derived.LaidMore
import Derived.Stop.Joined
import Derived.Lib.SmallJoins
set_option maxRecDepth 8000
namespace Go.Proofs.YtomdbmjfehoodaaGreatDoor
open Go.ChangeShapes Go.WideShapes Go.ChangeAt Go.RowKit

theorem cellsDya : Tryz.prog.cellsOf 26 = 3 := by kernel_rfl
/-- A dyadic number that came in. -/
theorem dya_in {H : Type} {enc : TypeId × Value → H} {W : World} {base : Nat} {v : Value} {d : DataW H} {ps : List MemPlace}
    (hok : Value.okWide Tryz.prog W .any base 26 v) (h : DataW.Trod enc Tryz.prog W 0 (fun _ => true) true 26 v d ps) :
    ∃ (nb : Bool) (M : Value) (xs : List Int) (e : Int), v = .agg #[.bool nb, M, .int .i64 e] ∧ Row W M xs ∧ -9223372036854775808 ≤ e ∧ e ≤ 9223372036854775807 := by
  obtain ⟨c0, c1, c2, y0, y1, y2, m, rfl, rfl, rfl, hy0, hy1, hy2⟩ := Joins.open_agg3 Tryz.underlying26 (by kernel_rfl) cellsDya hok h
  obtain ⟨b, e0, _⟩ := DataW.trod_bool Tryz.underlying4 hy0
  obtain ⟨z, e2, _, wz⟩ := DataW.trod_int Tryz.underlying3 hy2
  simp at e0 e2
  subst e0 e2
  have hb := bounds_i64 wz
  rcases open_ints Tryz.underlying24 Tryz.underlying3 (by kernel_rfl) hy1 with ⟨hcs, _⟩ | ⟨x, len, cap, zs, hcs, _, hl, hm, hz, _, hcell, _⟩
  · simp at hcs
    subst hcs
    exact ⟨b, _, [], z, rfl, Row.nil W none 0 (by simp [maxLen]), hb⟩
  · simp at hcs
    subst hcs
    have hz : zs.length = cap := by simpa using hz
    have hlen : (zs.take len).length = len := by rw [List.length_take]; omega
    refine ⟨b, _, zs.take len, z, rfl, ⟨_, cap, by rw [hlen], by omega, hm, fun hp => ?_⟩, hb⟩
    obtain ⟨blk, off, spot⟩ := x
    have h0 := hcell 0 (by omega)
    have hspot : spot = none := by simpa [Addr.add] using World.cell?_spot h0
    subst hspot
    have h0' := World.block_lt_of_cell? W _ h0
    refine ⟨blk, off, rfl, by simpa [Addr.add] using h0', fun j hj => ?_⟩
    have hj' : j < zs.length := by omega
    have := hcell j hj'
    rw [Addr.add_lit] at this
    rw [this, nth_eq hj, List.getElem_take, List.getD_eq_getElem?_getD, List.getElem?_eq_getElem hj']
    rfl
theorem dya_back {H : Type} {enc : TypeId × Value → H} {W W' : World} {v : Value} {d : DataW H} {ps : List MemPlace}
    (h : DataW.Trod enc Tryz.prog W 0 (fun _ => true) true 26 v d ps) (bel : Ext W W') : DataW.Trod enc Tryz.prog W' 0 (fun b => decide (b < W.heap.size)) true 26 v d ps :=
  Below.trod laidOut (by kernel_rfl) (of_decide_eq_true (by kernel_rfl)) h bel (by obtain ⟨m, hm⟩ := h; exact DataW.trod_lt m _ _ _ hm)

end Go.Proofs.YtomdbmjfehoodaaGreatDoor
