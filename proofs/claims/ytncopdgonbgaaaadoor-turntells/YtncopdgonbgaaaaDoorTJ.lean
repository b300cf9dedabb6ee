/- Walks of the document's answers on angles: Join, Right, Place. -/
import Derived.Test.YtncopdgonbgaaaaDoorTS
namespace Go.Proofs.YtncopdgonbgaaaaDoor
open Go.RowKit
set_option linter.unusedVariables false
/-- At g lies a part's variable. -/
structure B3 (w : World) (g : Nat) (x y z : Value) : Prop where
  c0 : w.cell? ⟨g, 0, none⟩ = some x
  c1 : w.cell? ⟨g, 1, none⟩ = some y
  c2 : w.cell? ⟨g, 2, none⟩ = some z
theorem B3.ext {w w' : World} {g : Nat} {x y z : Value} (h : B3 w g x y z) (E : Ext w w') : B3 w' g x y z := by
  have hg : g < w.heap.size := World.block_lt_of_cell? w _ h.c0
  exact ⟨(E.cell hg).trans h.c0, (E.cell hg).trans h.c1, (E.cell hg).trans h.c2⟩
theorem B3.at {w w' : World} {x y z : Value} {t : TypeId} {g : Nat} (E : Ext (w.alloc (.cells #[x, y, z] t)) w') (hg : w.heap.size = g) : B3 w' g x y z := by
  subst hg
  exact B3.ext ⟨by rw [World.cell?_alloc_new]; rfl, by rw [World.cell?_alloc_new]; rfl, by rw [World.cell?_alloc_new]; rfl⟩ E
theorem b3 {w : World} {g : Nat} {x y z : Value} (h : B3 w g x y z) : w.cell? ⟨g, 0, none⟩ = some x ∧ w.cell? ⟨g, 1, none⟩ = some y ∧ w.cell? ⟨g, 2, none⟩ = some z := ⟨h.c0, h.c1, h.c2⟩
theorem B3.off {w : World} {g g' : Nat} {x y z a b : Value} (h : B3 w g x y z) (hg : g ≠ g') : B3 ((w.setCell ⟨g', 0, none⟩ a).setCell ⟨g', 1, none⟩ b) g x y z := by
  have o : ∀ j, ((w.setCell ⟨g', 0, none⟩ a).setCell ⟨g', 1, none⟩ b).cell? ⟨g, j, none⟩ = w.cell? ⟨g, j, none⟩ := fun j => by
    rw [World.cell?_setCell_other _ _ _ _ (fun e => hg (by injection e with e; exact e.symm)), World.cell?_setCell_other _ _ _ _ (fun e => hg (by injection e with e; exact e.symm))]
  exact ⟨(o 0).trans h.c0, (o 1).trans h.c1, (o 2).trans h.c2⟩
/-- The angle of an eighth and a rest of r parts of 2^40. -/
def joinv (e r : Int) : Int := if e % 2 = 0 then (e * 137438953472 + r) % 1099511627776 else ((e + 1) * 137438953472 - r) % 1099511627776
theorem tv_three (e : Int) : tv e 3 = e * 137438953472 % 1099511627776 := rfl
theorem add_mods (a b : Int) : (a % 1099511627776 + b) % 1099511627776 = (a + b) % 1099511627776 := by omega
/-- An angle is joined of its part. -/
theorem join_split {v : Int} (h0 : 0 ≤ v) (h1 : v < 1099511627776) : joinv (eighth v) (rest v) = v := by
  unfold joinv rest
  generalize he : eighth v = e
  unfold eighth at he
  by_cases hp : e % 2 = 0
  · rw [if_pos hp, if_pos hp]; omega
  · rw [if_neg hp, if_neg hp]; omega
/-- Is an angle right? -/
def rightT (K Q : Int) : Bool := decide (0 ≤ Q) && (decide (Q ≤ 40) && (decide (-1099511627776 ≤ K) && decide (K ≤ 1099511627776)))
theorem rightT_iff {K Q : Int} : rightT K Q = true ↔ (0 ≤ Q ∧ Q ≤ 40) ∧ -1099511627776 ≤ K ∧ K ≤ 1099511627776 := by
  unfold rightT
  rw [Bool.and_eq_true, Bool.and_eq_true, Bool.and_eq_true, decide_eq_true_eq, decide_eq_true_eq, decide_eq_true_eq, decide_eq_true_eq]
  omega
set_option maxRecDepth 4000 in
set_option maxHeartbeats 1000000 in
theorem rrightT_any (w : World) (K Q : Int) (hK : -9223372036854775808 ≤ K ∧ K ≤ 9223372036854775807) (hQ : -9223372036854775808 ≤ Q ∧ Q ≤ 9223372036854775807) :
    Calls Tryd.prog 13 #[.agg #[.int .i64 K, .int .i64 Q]] w (RetE w (.bool (rightT K Q))) := by
  unfold rightT
  by_cases c0 : 0 ≤ Q
  · rw [decide_eq_true c0]
    have d0 : decide (0 ≤ Q) = true := decide_eq_true c0
    by_cases c1 : Q ≤ 40
    · rw [decide_eq_true c1]
      have d1 : decide (Q ≤ 40) = true := decide_eq_true c1
      by_cases c2 : -1099511627776 ≤ K
      · rw [decide_eq_true c2]
        have d2 : decide (-1099511627776 ≤ K) = true := decide_eq_true c2
        by_cases c3 : K ≤ 1099511627776
        · rw [decide_eq_true c3]
          have d3 : decide (K ≤ 1099511627776) = true := decide_eq_true c3
          go_enter Tryd.func13, Tryd.ntmps13
          go_wp2
          go_ret
          exact ⟨by simp, (Ext.refl w).alloc _⟩
        · rw [decide_eq_false c3]
          have d3 : decide (K ≤ 1099511627776) = false := decide_eq_false c3
          go_enter Tryd.func13, Tryd.ntmps13
          go_wp2
          go_ret
          exact ⟨by simp, (Ext.refl w).alloc _⟩
      · rw [decide_eq_false c2]
        have d2 : decide (-1099511627776 ≤ K) = false := decide_eq_false c2
        go_enter Tryd.func13, Tryd.ntmps13
        go_wp2
        go_ret
        exact ⟨by simp, (Ext.refl w).alloc _⟩
    · rw [decide_eq_false c1]
      have d1 : decide (Q ≤ 40) = false := decide_eq_false c1
      go_enter Tryd.func13, Tryd.ntmps13
      go_wp2
      go_ret
      exact ⟨by simp, (Ext.refl w).alloc _⟩
  · rw [decide_eq_false c0]
    have d0 : decide (0 ≤ Q) = false := decide_eq_false c0
    go_enter Tryd.func13, Tryd.ntmps13
    go_wp2
    go_ret
    exact ⟨by simp, (Ext.refl w).alloc _⟩
def plSwap (e : Int) : Bool := decide (e = 1 ∨ e = 2 ∨ e = 5 ∨ e = 6)
def plCos (e : Int) : Bool := decide (2 ≤ e ∧ e ≤ 5)
def plSin (e : Int) : Bool := decide (4 ≤ e ∧ e ≤ 7)
set_option maxRecDepth 4000 in
set_option maxHeartbeats 1000000 in
theorem rplace_no (w : World) (e : Int) (h : e < 0 ∨ 7 < e) :
    Calls Tryd.prog 11 #[.int .i64 e] w (RetE w (.tuple #[.bool (plSwap e), .bool (plCos e), .bool (plSin e)])) := by
  have a : plSwap e = false := decide_eq_false (by omega)
  have b : plCos e = false := decide_eq_false (by omega)
  have c : plSin e = false := decide_eq_false (by omega)
  rw [a, b, c]
  by_cases h0 : e < 0
  · go_enter Tryd.func11, Tryd.ntmps11
    go_wp2
    exact bodyPost_ret (by simp [results, Tryd.results11, go_sem]) rfl ⟨rfl, Ext.refl w⟩
  · have h7 : 7 < e := by omega
    go_enter Tryd.func11, Tryd.ntmps11
    go_wp2
    exact bodyPost_ret (by simp [results, Tryd.results11, go_sem]) rfl ⟨rfl, Ext.refl w⟩
set_option maxRecDepth 4000 in
set_option maxHeartbeats 1000000 in
theorem rplace_yes (w : World) (e : Int) (h : 0 ≤ e ∧ e ≤ 7) :
    Calls Tryd.prog 11 #[.int .i64 e] w (RetE w (.tuple #[.bool (plSwap e), .bool (plCos e), .bool (plSin e)])) := by
  obtain rfl | rfl | rfl | rfl | rfl | rfl | rfl | rfl : e = 0 ∨ e = 1 ∨ e = 2 ∨ e = 3 ∨ e = 4 ∨ e = 5 ∨ e = 6 ∨ e = 7 := by omega
  all_goals
    go_enter Tryd.func11, Tryd.ntmps11
    go_wp2
    exact bodyPost_ret (by simp [results, Tryd.results11, go_sem, plSwap, plCos, plSin]) rfl ⟨rfl, Ext.refl w⟩
theorem rplace_any (w : World) (e : Int) : Calls Tryd.prog 11 #[.int .i64 e] w (RetE w (.tuple #[.bool (plSwap e), .bool (plCos e), .bool (plSin e)])) := by
  by_cases h : 0 ≤ e ∧ e ≤ 7
  · exact rplace_yes w e h
  · exact rplace_no w e (by omega)
end Go.Proofs.YtncopdgonbgaaaaDoor
