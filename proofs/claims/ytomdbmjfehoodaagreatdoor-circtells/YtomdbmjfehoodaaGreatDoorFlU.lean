/- Frames of the laws on angles: what the row lists, an angle that came in by value. -/
import Derived.Test.YtomdbmjfehoodaaGreatDoorFr
import Derived.Test.YtomdbmjfehoodaaGreatDoorTL
import Derived.LaidMore
import Derived.Lib.LaidTab
import Derived.Stop.LaidErr
import Derived.Stop.Joined
import Derived.Lib.SmallJoins
set_option maxRecDepth 8000
namespace Go.Proofs.YtomdbmjfehoodaaGreatDoor
open Go.ChangeShapes Go.WideShapes Go.ChangeAt Go.RowKit

/-- What the row lists. -/
def laidTurn : List (String × DataW Unit) := [("math/bits.deBruijn32tab", Rows.laid_math_bits_deBruijn32tab), ("math/bits.deBruijn64tab", Rows.laid_math_bits_deBruijn64tab), ("overtone/turn.places", Rows.laid_overtone_turn_places)]
theorem g64 : Tryz.prog.globalNamed "math/bits.deBruijn64tab" = some 2 := by kernel_rfl
theorem t64 : (Tryz.prog.globals[2]?).map (·.type) = some 125 := by kernel_rfl
theorem cells8 : Tryz.prog.cellsOf 5 = 1 := by kernel_rfl
theorem cells64 : Tryz.prog.cellsOf 125 = 64 := by kernel_rfl
theorem gPl : Tryz.prog.globalNamed "overtone/turn.places" = some 0 := by kernel_rfl
theorem tPl : (Tryz.prog.globals[0]?).map (·.type) = some 101 := by kernel_rfl
theorem cellsB : Tryz.prog.cellsOf 4 = 1 := by kernel_rfl
theorem cells3B : Tryz.prog.cellsOf 100 = 3 := by kernel_rfl
/-- A row of an array reads at each place what the cells there read. -/
theorem array_at {H : Type} {enc : TypeId × Value → H} {P : Program} {w : World} {base : Nat} {sp : Nat → Bool} {held : Bool} {fuel : Nat} {t e : TypeId} {n : Nat} {cs : List Value} {ds : List (DataW H)} {p : List MemPlace}
    (ht : P.underlying t = some (.array n e)) (h : DataW.trod enc P w base sp held fuel t cs = some (.agg ds, p)) (i : Nat) (hi : i < n) :
    ∃ f d q, ds[i]? = some d ∧ DataW.trod enc P w base sp held f e ((cs.drop (i * P.cellsOf e)).take (P.cellsOf e)) = some (d, q) := by
  rcases fuel with _ | fuel
  · simp [DataW.trod] at h
  · simp only [DataW.trod, ht] at h
    split at h
    · obtain ⟨xs, hm, hx⟩ := Option.map_eq_some_iff.1 h
      obtain ⟨⟨d, q⟩, hb, hf⟩ := Lib.mapM_at hm i i (by simp [hi])
      have e1 := congrArg Prod.fst hx
      simp at e1
      subst e1
      exact ⟨fuel, d, q, by simp [hb], hf⟩
    · cases h
theorem bools_at {H : Type} {enc : TypeId × Value → H} {w : World} {base : Nat} {sp : Nat → Bool} {held : Bool} {fuel : Nat} {cs : List Value} {a b c : Bool} {p : List MemPlace}
    (h : DataW.trod enc Tryz.prog w base sp held fuel 100 cs = some (.agg [.lit (.bool a), .lit (.bool b), .lit (.bool c)], p)) :
    cs[0]? = some (.bool a) ∧ cs[1]? = some (.bool b) ∧ cs[2]? = some (.bool c) := by
  have key : ∀ i, i < 3 → ∀ x, ([.lit (.bool a), .lit (.bool b), .lit (.bool c)] : List (DataW H))[i]? = some (.lit (.bool x)) → cs[i]? = some (.bool x) := fun i hi x hx => by
    obtain ⟨f, d, q, h1, h2⟩ := array_at Tryz.underlying100 h i hi
    rw [cellsB, Nat.mul_one] at h2
    obtain ⟨y, hy, he⟩ := DataW.trod_bool Tryz.underlying4 h2
    injection he with he he2
    rw [h1, Option.some.injEq] at hx
    rw [hx] at he
    injection he with he
    injection he with he
    subst he
    have := congrArg (·[0]?) hy
    simpa [List.getElem?_take, List.getElem?_drop] using this
  exact ⟨key 0 (by omega) a rfl, key 1 (by omega) b rfl, key 2 (by omega) c rfl⟩
theorem laid_places : (Rows.laid_overtone_turn_places : DataW Unit) = .agg ((List.range 8).map fun (i : Nat) => .agg [.lit (.bool (plSwap (i : Int))), .lit (.bool (plCos (i : Int))), .lit (.bool (plSin (i : Int)))]) := by kernel_rfl
theorem tu_of_laid {W : World} (h : laidMetH Tryz.prog laidTurn W) : Tu W := by
  rw [MakeChecks.laidMetH_plain _ _ _ (by kernel_rfl)] at h
  have h2 : laidMet Tryz.prog (("math/bits.deBruijn64tab", Lib.tabData .u8 (Lib.deBruijn64tab.map Int.ofNat)) :: [("overtone/turn.places", Rows.laid_overtone_turn_places)]) W := laidMet.tail h
  have h3 : laidMet Tryz.prog [("overtone/turn.places", Rows.laid_overtone_turn_places)] W := laidMet.tail h2
  have hT := Lib.tabIs_of_head g64 t64 Tryz.underlying125 Tryz.underlying5 cells8 cells64 h2
  refine ⟨⟨fun i hi => ?_⟩, ⟨fun i hi => ?_⟩⟩
  · have hl : (Lib.deBruijn64tab.map Int.ofNat).length = 64 := by rw [List.length_map]; rfl
    have hl' : Lib.deBruijn64tab.length = 64 := rfl
    have := hT.cell g64 i (by omega)
    rw [this]
    congr 2
    rw [List.getD_eq_getElem?_getD, List.getD_eq_getElem?_getD, List.getElem?_map, List.getElem?_eq_getElem (by omega)]
    rfl
  · obtain ⟨ps, ⟨g', t', cs, fuel, p, q, hg', ht', hvar, hd, _, _⟩, _⟩ := h3
    obtain rfl := Option.some.inj (gPl.symm.trans hg')
    obtain rfl := Option.some.inj (tPl.symm.trans ht')
    rw [laid_places] at hd
    obtain ⟨f, d, r, h1, hrow⟩ := array_at Tryz.underlying101 hd i hi
    rw [List.getElem?_map, List.getElem?_range hi, Option.map_some, Option.some.injEq] at h1
    subst h1
    rw [cells3B] at hrow
    obtain ⟨c0, c1, c2⟩ := bools_at hrow
    have hv : ∀ j, W.cell? ⟨0, j, none⟩ = cs[j]? := fun j => by
      have := World.var?_cell gPl hvar j
      simpa using this
    rw [hv, hv, hv]
    refine ⟨?_, ?_, ?_⟩
    · simpa [List.getElem?_take, List.getElem?_drop, Nat.mul_comm] using c0
    · simpa [List.getElem?_take, List.getElem?_drop, Nat.mul_comm] using c1
    · simpa [List.getElem?_take, List.getElem?_drop, Nat.mul_comm] using c2
/-- The door's own heap meets the condition. -/
theorem door_met (os : Os) (args : Array Value) : laidMetH Tryz.prog laidTurn ((World.doorLaid Tryz.prog 400 os).forCall (fun _ _ => 0) ⟨#[], args, []⟩).memory :=
  laidMetH_of_parts3 (fuel := 8) (laidMet_of_run' 8 (by kernel_rfl) (by kernel_rfl)) (by kernel_rfl) (by kernel_rfl)

theorem cellsTurn : Tryz.prog.cellsOf 23 = 2 := by kernel_rfl
/-- An angle that came in. -/
theorem turn_in {H : Type} {enc : TypeId × Value → H} {W : World} {base : Nat} {v : Value} {d : DataW H} {ps : List MemPlace}
    (hok : Value.okWide Tryz.prog W .any base 23 v) (h : DataW.Trod enc Tryz.prog W 0 (fun _ => true) true 23 v d ps) :
    ∃ K Q : Int, v = .agg #[.int .i64 K, .int .i64 Q] ∧ (-9223372036854775808 ≤ K ∧ K ≤ 9223372036854775807) ∧ -9223372036854775808 ≤ Q ∧ Q ≤ 9223372036854775807 := by
  obtain ⟨c0, c1, y0, y1, m, rfl, rfl, rfl, hy0, hy1⟩ := Joins.open_agg2 Tryz.underlying23 (by kernel_rfl) cellsTurn hok h
  obtain ⟨a, e0, _, wa⟩ := DataW.trod_int Tryz.underlying3 hy0
  obtain ⟨b, e1, _, wb⟩ := DataW.trod_int Tryz.underlying3 hy1
  simp at e0 e1
  subst e0 e1
  exact ⟨a, b, rfl, bounds_i64 wa, bounds_i64 wb⟩
theorem turn_back {H : Type} {enc : TypeId × Value → H} {W W' : World} {v : Value} {d : DataW H} {ps : List MemPlace}
    (h : DataW.Trod enc Tryz.prog W 0 (fun _ => true) true 23 v d ps) (bel : Ext W W') : DataW.Trod enc Tryz.prog W' 0 (fun b => decide (b < W.heap.size)) true 23 v d ps :=
  Below.trod laidOut (by kernel_rfl) (of_decide_eq_true (by kernel_rfl)) h bel (by obtain ⟨m, hm⟩ := h; exact DataW.trod_lt m _ _ _ hm)
end Go.Proofs.YtomdbmjfehoodaaGreatDoor
