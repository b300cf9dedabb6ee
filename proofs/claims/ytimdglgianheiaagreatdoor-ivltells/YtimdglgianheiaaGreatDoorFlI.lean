/- Frames: an enclosure that comes in by value. -/
import Derived.Test.YtimdglgianheiaaGreatDoorFl
namespace Go.Proofs.YtimdglgianheiaaGreatDoor
open Go.ChangeShapes Go.WideShapes Go.ChangeAt Go.RowKit Go.Joins
theorem array6 {α : Type} {cs : Array α} (h : cs.size = 6) : ∃ c0 c1 c2 c3 c4 c5, cs = #[c0, c1, c2, c3, c4, c5] := by
  obtain ⟨l⟩ := cs
  match l, h with
  | [c0, c1, c2, c3, c4, c5], _ => exact ⟨c0, c1, c2, c3, c4, c5, rfl⟩
theorem cellsIvl : Tryz.prog.cellsOf 26 = 6 := by kernel_rfl
theorem dya_cells {H : Type} {enc : TypeId × Value → H} {W : World} {fuel : Nat} {c0 c1 c2 : Value} {y : DataW H × List MemPlace}
    (hf : DataW.trod enc Tryz.prog W 0 (fun _ => true) true fuel 24 [c0, c1, c2] = some y) :
    ∃ (nb : Bool) (M : Value) (xs : List Int) (e : Int), c0 = .bool nb ∧ c1 = M ∧ c2 = .int .i64 e ∧ Row W M xs ∧ -9223372036854775808 ≤ e ∧ e ≤ 9223372036854775807 := by
  obtain ⟨y0, y1, y2, m, hx, _, h0, h1, h2⟩ := Go.Deep.trod_struct3 Tryz.underlying24 hf
  have k0 : Tryz.prog.cellsOf 4 = 1 := by kernel_rfl
  have k1 : Tryz.prog.cellsOf 22 = 1 := by kernel_rfl
  have k2 : Tryz.prog.cellsOf 3 = 1 := by kernel_rfl
  have hy0 : DataW.trod enc Tryz.prog W 0 (fun _ => true) true m 4 [c0] = some y0 := by simpa [k0] using h0
  have hy1 : DataW.trod enc Tryz.prog W 0 (fun _ => true) true m 22 [c1] = some y1 := by simpa [k1] using h1
  have hy2 : DataW.trod enc Tryz.prog W 0 (fun _ => true) true m 3 [c2] = some y2 := by simpa [k2] using h2
  obtain ⟨b, e0, _⟩ := DataW.trod_bool Tryz.underlying4 hy0
  obtain ⟨z, e2, _, wz⟩ := DataW.trod_int Tryz.underlying3 hy2
  simp at e0 e2
  subst e0 e2
  have hb := bounds_i64 wz
  rcases open_ints Tryz.underlying22 Tryz.underlying3 (by kernel_rfl) hy1 with ⟨hcs, _⟩ | ⟨x, len, cap, zs, hcs, _, hl, hm, hz, _, hcell, _⟩
  · simp at hcs
    subst hcs
    exact ⟨b, _, [], z, rfl, rfl, rfl, Row.nil W none 0 (by simp [maxLen]), hb⟩
  · simp at hcs
    subst hcs
    have hz : zs.length = cap := by simpa using hz
    have hlen : (zs.take len).length = len := by rw [List.length_take]; omega
    refine ⟨b, _, zs.take len, z, rfl, rfl, rfl, ⟨_, cap, by rw [hlen], by omega, hm, fun hp => ?_⟩, hb⟩
    obtain ⟨blk, off, spot⟩ := x
    have h0 := hcell 0 (by omega)
    have hspot : spot = none := by simpa [Addr.add] using World.cell?_spot h0
    subst hspot
    have h0' := World.block_lt_of_cell? W _ h0
    refine ⟨blk, off, rfl, by simpa [Addr.add] using h0', fun j hj => ?_⟩
    have hj' : j < zs.length := by omega
    have := hcell j hj'
    rw [Addr.add_lit] at this
    rw [this, nth_eq hj, List.getElem_take, List.getD_eq_getElem?_getD, List.getElem?_eq_getElem hj']
    rfl

theorem ivl_in {H : Type} {enc : TypeId × Value → H} {W : World} {base : Nat} {v : Value} {d : DataW H} {ps : List MemPlace}
    (hok : Value.okWide Tryz.prog W .any base 26 v) (h : DataW.Trod enc Tryz.prog W 0 (fun _ => true) true 26 v d ps) :
    ∃ (nb : Bool) (M : Value) (xs : List Int) (e : Int) (nb' : Bool) (M' : Value) (xs' : List Int) (e' : Int), v = .agg #[.bool nb, M, .int .i64 e, .bool nb', M', .int .i64 e'] ∧
      Row W M xs ∧ (-9223372036854775808 ≤ e ∧ e ≤ 9223372036854775807) ∧ Row W M' xs' ∧ (-9223372036854775808 ≤ e' ∧ e' ≤ 9223372036854775807) := by
  obtain ⟨cs, rfl, hsz⟩ := okWide_struct Tryz.underlying26 hok
  obtain ⟨c0, c1, c2, c3, c4, c5, rfl⟩ := array6 (hsz.trans cellsIvl)
  obtain ⟨fuel, hf⟩ := h
  obtain ⟨y0, y1, n, hx, _, h0, h1⟩ := trod_struct2 Tryz.underlying26 hf
  have g0 : DataW.trod enc Tryz.prog W 0 (fun _ => true) true n 24 [c0, c1, c2] = some y0 := by simpa [Value.cells, cellsDya] using h0
  have g1 : DataW.trod enc Tryz.prog W 0 (fun _ => true) true n 24 [c3, c4, c5] = some y1 := by simpa [Value.cells, cellsDya] using h1
  obtain ⟨nb, M, xs, e, rfl, rfl, rfl, r, b1, b2⟩ := dya_cells g0
  obtain ⟨nb', M', xs', e', rfl, rfl, rfl, r', b1', b2'⟩ := dya_cells g1
  exact ⟨nb, _, xs, e, nb', _, xs', e', rfl, r, ⟨b1, b2⟩, r', ⟨b1', b2'⟩⟩
theorem ivl_back {H : Type} {enc : TypeId × Value → H} {W W' : World} {v : Value} {d : DataW H} {ps : List MemPlace}
    (h : DataW.Trod enc Tryz.prog W 0 (fun _ => true) true 26 v d ps) (bel : Ext W W') : DataW.Trod enc Tryz.prog W' 0 (fun b => decide (b < W.heap.size)) true 26 v d ps :=
  Below.trod laidOut (by kernel_rfl) (of_decide_eq_true (by kernel_rfl)) h bel (by obtain ⟨m, hm⟩ := h; exact DataW.trod_lt m _ _ _ hm)
end Go.Proofs.YtimdglgianheiaaGreatDoor
