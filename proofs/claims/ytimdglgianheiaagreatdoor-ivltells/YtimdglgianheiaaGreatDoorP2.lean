/- Enclosures as the program holds them. -/
import Derived.Test.YtimdglgianheiaaGreatDoorP1
namespace Go.Proofs.YtimdglgianheiaaGreatDoor
open Go.RowKit

/-- v is the enclosure from l to h. -/
def In (w : World) (v : Value) (l h : Dyadic) : Prop :=
  ∃ (b : Bool) (A : Option Addr) (n c : Nat) (e : Int) (b' : Bool) (A' : Option Addr) (n' c' : Nat) (e' : Int),
    v = .agg #[.bool b, .slice A n c, .int .i64 e, .bool b', .slice A' n' c', .int .i64 e'] ∧ Dn w (.agg #[.bool b, .slice A n c, .int .i64 e]) l ∧ Dn w (.agg #[.bool b', .slice A' n' c', .int .i64 e']) h
def RetI (w : World) (l h : Dyadic) (e : Ending) (w' : World) : Prop := ∃ v, e = .returned v ∧ In w' v l h ∧ Ext w w'
theorem In.ext {w w' : World} {v : Value} {l h : Dyadic} (k : In w v l h) (E : Ext w w') : In w' v l h := by
  obtain ⟨b, A, n, c, e, b', A', n', c', e', rfl, h1, h2⟩ := k
  exact ⟨b, A, n, c, e, b', A', n', c', e', rfl, h1.ext E, h2.ext E⟩
theorem In.mk {w : World} {x y z x' y' z' : Value} {l h : Dyadic} (h1 : Dn w (.agg #[x, y, z]) l) (h2 : Dn w (.agg #[x', y', z']) h) : In w (.agg #[x, y, z, x', y', z']) l h := by
  obtain ⟨b, A, n, c, e, hv⟩ := h1.form
  obtain ⟨b', A', n', c', e', hv'⟩ := h2.form
  simp only [Value.agg.injEq, Array.mk.injEq, List.cons.injEq, and_true] at hv hv'
  obtain ⟨rfl, rfl, rfl⟩ := hv
  obtain ⟨rfl, rfl, rfl⟩ := hv'
  exact ⟨b, A, n, c, e, b', A', n', c', e', rfl, h1, h2⟩
theorem In.lo {w : World} {x y z x' y' z' : Value} {l h : Dyadic} (k : In w (.agg #[x, y, z, x', y', z']) l h) : Dn w (.agg #[x, y, z]) l := by
  obtain ⟨b, A, n, c, e, b', A', n', c', e', hv, h1, h2⟩ := k
  simp only [Value.agg.injEq, Array.mk.injEq, List.cons.injEq, and_true] at hv
  obtain ⟨rfl, rfl, rfl, rfl, rfl, rfl⟩ := hv
  exact h1
theorem In.hi {w : World} {x y z x' y' z' : Value} {l h : Dyadic} (k : In w (.agg #[x, y, z, x', y', z']) l h) : Dn w (.agg #[x', y', z']) h := by
  obtain ⟨b, A, n, c, e, b', A', n', c', e', hv, h1, h2⟩ := k
  simp only [Value.agg.injEq, Array.mk.injEq, List.cons.injEq, and_true] at hv
  obtain ⟨rfl, rfl, rfl, rfl, rfl, rfl⟩ := hv
  exact h2
theorem In.zero (w : World) : In w (.agg #[.bool false, .slice none 0 0, .int .i64 0, .bool false, .slice none 0 0, .int .i64 0]) 0 0 := In.mk (Dn.zero w) (Dn.zero w)

/-- At g lies an enclosure's variable. -/
structure Bx (w : World) (g : Nat) (x y z x' y' z' : Value) : Prop where
  c0 : w.cell? ⟨g, 0, none⟩ = some x
  c1 : w.cell? ⟨g, 1, none⟩ = some y
  c2 : w.cell? ⟨g, 2, none⟩ = some z
  c3 : w.cell? ⟨g, 3, none⟩ = some x'
  c4 : w.cell? ⟨g, 4, none⟩ = some y'
  c5 : w.cell? ⟨g, 5, none⟩ = some z'
theorem Bx.ext {w w' : World} {g : Nat} {x y z x' y' z' : Value} (h : Bx w g x y z x' y' z') (E : Ext w w') : Bx w' g x y z x' y' z' := by
  have hg : g < w.heap.size := World.block_lt_of_cell? w _ h.c0
  exact ⟨(E.cell hg).trans h.c0, (E.cell hg).trans h.c1, (E.cell hg).trans h.c2, (E.cell hg).trans h.c3, (E.cell hg).trans h.c4, (E.cell hg).trans h.c5⟩
theorem Bx.new (w : World) (x y z x' y' z' : Value) (t : TypeId) : Bx (w.alloc (.cells #[x, y, z, x', y', z'] t)) w.heap.size x y z x' y' z' :=
  ⟨by rw [World.cell?_alloc_new]; rfl, by rw [World.cell?_alloc_new]; rfl, by rw [World.cell?_alloc_new]; rfl, by rw [World.cell?_alloc_new]; rfl, by rw [World.cell?_alloc_new]; rfl, by rw [World.cell?_alloc_new]; rfl⟩
theorem Bx.at {w w' : World} {x y z x' y' z' : Value} {t : TypeId} {g : Nat} (E : Ext (w.alloc (.cells #[x, y, z, x', y', z'] t)) w') (hg : w.heap.size = g) : Bx w' g x y z x' y' z' := by
  subst hg; exact (Bx.new w x y z x' y' z' t).ext E

/-- At g lies a result's variable of six cells, with nothing in it yet. -/
structure Zi (w : World) (g : Nat) : Prop where
  c0 : w.cell? ⟨g, 0, none⟩ = some (.bool false)
  c1 : w.cell? ⟨g, 1, none⟩ = some (.slice none 0 0)
  c2 : w.cell? ⟨g, 2, none⟩ = some (.int .i64 0)
  c3 : w.cell? ⟨g, 3, none⟩ = some (.bool false)
  c4 : w.cell? ⟨g, 4, none⟩ = some (.slice none 0 0)
  c5 : w.cell? ⟨g, 5, none⟩ = some (.int .i64 0)
  z : ∀ j x, w.cell? ⟨g, j, none⟩ = some (.int .i64 x) → x = 0
  f : ∀ j, w.frozen? ⟨g, j, none⟩ = false
theorem Zi.new (w : World) (t : TypeId) : Zi (w.alloc (.cells #[.bool false, .slice none 0 0, .int .i64 0, .bool false, .slice none 0 0, .int .i64 0] t)) w.heap.size := by
  refine ⟨by rw [World.cell?_alloc_new]; rfl, by rw [World.cell?_alloc_new]; rfl, by rw [World.cell?_alloc_new]; rfl, by rw [World.cell?_alloc_new]; rfl, by rw [World.cell?_alloc_new]; rfl, by rw [World.cell?_alloc_new]; rfl, fun j x h => ?_, fun j => by simp⟩
  rw [World.cell?_alloc_new] at h
  match j, h with
  | 0, h => simp at h
  | 1, h => simp at h
  | 2, h => simpa using h.symm
  | 3, h => simp at h
  | 4, h => simp at h
  | 5, h => simpa using h.symm
  | j + 6, h => simp at h
theorem Zi.ext {w w' : World} {g : Nat} (h : Zi w g) (E : Ext w w') : Zi w' g := by
  have hg : g < w.heap.size := World.block_lt_of_cell? w _ h.c0
  exact ⟨(E.cell hg).trans h.c0, (E.cell hg).trans h.c1, (E.cell hg).trans h.c2, (E.cell hg).trans h.c3, (E.cell hg).trans h.c4, (E.cell hg).trans h.c5, fun j x k => h.z j x ((E.cell hg).symm.trans k), fun j => (E.frozen hg).trans (h.f j)⟩
theorem Zi.at {w w' : World} {t : TypeId} {g : Nat} (E : Ext (w.alloc (.cells #[.bool false, .slice none 0 0, .int .i64 0, .bool false, .slice none 0 0, .int .i64 0] t)) w') (hg : w.heap.size = g) : Zi w' g := by
  subst hg; exact (Zi.new w t).ext E
/-- A number's row lies in no block of noughts: so it outlives a store there. -/
theorem row_off {w w' : World} {g : Nat} {v : Value} {xs : List Int} (hz : ∀ j x, w.cell? ⟨g, j, none⟩ = some (.int .i64 x) → x = 0) (r : Row w v xs) (n : NF xs) (hs : ∀ p : Addr, p.block ≠ g → w'.cell? p = w.cell? p) (hw : w.heap.size ≤ w'.heap.size) : Row w' v xs := by
  obtain ⟨A, c, rfl, h1, h2, h3⟩ := r
  refine ⟨A, c, rfl, h1, h2, fun hl => ?_⟩
  obtain ⟨b, off, rfl, hb, hc⟩ := h3 hl
  have hne : b ≠ g := by
    rintro rfl
    have hk := hc (xs.length - 1) (by omega)
    have htop : nth xs (xs.length - 1) ≠ 0 := by
      rcases n.2 with e | e
      · subst e; simp at hl
      · exact e
    exact htop (hz _ _ hk)
  exact ⟨b, off, rfl, by omega, fun j hj => by rw [hs _ hne]; exact hc j hj⟩
theorem nat_off {w w' : World} {g : Nat} {v : Value} {m : Nat} (hz : ∀ j x, w.cell? ⟨g, j, none⟩ = some (.int .i64 x) → x = 0) (n : N w v m) (hs : ∀ p : Addr, p.block ≠ g → w'.cell? p = w.cell? p) (hw : w.heap.size ≤ w'.heap.size) : N w' v m := by
  obtain ⟨xs, r, nf, e⟩ := n
  exact ⟨xs, row_off hz r nf hs hw, nf, e⟩
theorem dn_off {w w' : World} {g : Nat} {v : Value} {d : Dyadic} (hz : ∀ j x, w.cell? ⟨g, j, none⟩ = some (.int .i64 x) → x = 0) (n : Dn w v d) (hs : ∀ p : Addr, p.block ≠ g → w'.cell? p = w.cell? p) (hw : w.heap.size ≤ w'.heap.size) : Dn w' v d := by
  obtain ⟨M, z, e, rfl, h1, h2, h3⟩ := n
  exact ⟨M, z, e, rfl, nat_off hz h1 hs hw, h2, h3⟩
def set6 (w : World) (g : Nat) (x y z x' y' z' : Value) : World :=
  (((((w.setCell ⟨g, 0, none⟩ x).setCell ⟨g, 1, none⟩ y).setCell ⟨g, 2, none⟩ z).setCell ⟨g, 3, none⟩ x').setCell ⟨g, 4, none⟩ y').setCell ⟨g, 5, none⟩ z'
theorem set6_other {w : World} {g : Nat} {x y z x' y' z' : Value} {p : Addr} (h : p.block ≠ g) : (set6 w g x y z x' y' z').cell? p = w.cell? p := by
  unfold set6
  have hne : ∀ i, (⟨g, i, none⟩ : Addr) ≠ p := by rintro i rfl; exact h rfl
  first
  | rw [World.cell?_setCell_other _ _ _ _ (hne 5), World.cell?_setCell_other _ _ _ _ (hne 4), World.cell?_setCell_other _ _ _ _ (hne 3), World.cell?_setCell_other _ _ _ _ (hne 2), World.cell?_setCell_other _ _ _ _ (hne 1), World.cell?_setCell_other _ _ _ _ (hne 0)]
  | rw [World.cell?_setCell_other _ _ _ _ (hne 5).symm, World.cell?_setCell_other _ _ _ _ (hne 4).symm, World.cell?_setCell_other _ _ _ _ (hne 3).symm, World.cell?_setCell_other _ _ _ _ (hne 2).symm, World.cell?_setCell_other _ _ _ _ (hne 1).symm, World.cell?_setCell_other _ _ _ _ (hne 0).symm]
theorem set6_size {w : World} {g : Nat} {x y z x' y' z' : Value} : (set6 w g x y z x' y' z').heap.size = w.heap.size := by simp [set6]
theorem Ext.set6 {a w : World} {g : Nat} {x y z x' y' z' : Value} (h : Ext a w) (hg : a.heap.size ≤ g) : Ext a (set6 w g x y z x' y' z') := (((((h.setCell hg _).setCell hg _).setCell hg _).setCell hg _).setCell hg _).setCell hg _
theorem set6_same {w : World} {g : Nat} {x y z x' y' z' : Value} {a b c a' b' c' : Value} (h : Bx w g a b c a' b' c') : Bx (set6 w g x y z x' y' z') g x y z x' y' z' := by
  unfold set6
  have o : ∀ (W : World) (i j : Nat) (v : Value), i ≠ j → (W.setCell ⟨g, i, none⟩ v).cell? ⟨g, j, none⟩ = W.cell? ⟨g, j, none⟩ := fun W i j v hij => World.cell?_setCell_other _ _ _ _ (fun h => hij (by injection h))
  refine ⟨?_, ?_, ?_, ?_, ?_, ?_⟩
  · rw [o _ 5 0 _ (by omega), o _ 4 0 _ (by omega), o _ 3 0 _ (by omega), o _ 2 0 _ (by omega), o _ 1 0 _ (by omega)]
    exact World.cell?_setCell_same _ _ _ h.c0
  · rw [o _ 5 1 _ (by omega), o _ 4 1 _ (by omega), o _ 3 1 _ (by omega), o _ 2 1 _ (by omega)]
    exact World.cell?_setCell_same _ _ _ (by rw [o _ 0 1 _ (by omega)]; exact h.c1)
  · rw [o _ 5 2 _ (by omega), o _ 4 2 _ (by omega), o _ 3 2 _ (by omega)]
    exact World.cell?_setCell_same _ _ _ (by rw [o _ 1 2 _ (by omega), o _ 0 2 _ (by omega)]; exact h.c2)
  · rw [o _ 5 3 _ (by omega), o _ 4 3 _ (by omega)]
    exact World.cell?_setCell_same _ _ _ (by rw [o _ 2 3 _ (by omega), o _ 1 3 _ (by omega), o _ 0 3 _ (by omega)]; exact h.c3)
  · rw [o _ 5 4 _ (by omega)]
    exact World.cell?_setCell_same _ _ _ (by rw [o _ 3 4 _ (by omega), o _ 2 4 _ (by omega), o _ 1 4 _ (by omega), o _ 0 4 _ (by omega)]; exact h.c4)
  · exact World.cell?_setCell_same _ _ _ (by rw [o _ 4 5 _ (by omega), o _ 3 5 _ (by omega), o _ 2 5 _ (by omega), o _ 1 5 _ (by omega), o _ 0 5 _ (by omega)]; exact h.c5)
theorem Zi.bx {w : World} {g : Nat} (h : Zi w g) : Bx w g (.bool false) (.slice none 0 0) (.int .i64 0) (.bool false) (.slice none 0 0) (.int .i64 0) := ⟨h.c0, h.c1, h.c2, h.c3, h.c4, h.c5⟩
/-- A result is laid in its variable. -/
theorem Zi.done {w w2 : World} {g : Nat} {x y z x' y' z' : Value} {l u : Dyadic} (h : Zi w2 g) (n : Dn w2 (.agg #[x, y, z]) l) (m : Dn w2 (.agg #[x', y', z']) u) (E : Ext w w2) (hg : w.heap.size ≤ g) :
    let W := ((((((w2.setCell ⟨g, 0, none⟩ x).setCell ⟨g, 1, none⟩ y).setCell ⟨g, 2, none⟩ z).setCell ⟨g, 3, none⟩ x').setCell ⟨g, 4, none⟩ y').setCell ⟨g, 5, none⟩ z')
    W.cell? ⟨g, 0, none⟩ = some x ∧ W.cell? ⟨g, 1, none⟩ = some y ∧ W.cell? ⟨g, 2, none⟩ = some z ∧ W.cell? ⟨g, 3, none⟩ = some x' ∧ W.cell? ⟨g, 4, none⟩ = some y' ∧ W.cell? ⟨g, 5, none⟩ = some z' ∧ RetI w l u (.returned (.agg #[x, y, z, x', y', z'])) W := by
  have B := set6_same (x := x) (y := y) (z := z) (x' := x') (y' := y') (z' := z') h.bx
  exact ⟨B.c0, B.c1, B.c2, B.c3, B.c4, B.c5, _, rfl, In.mk (dn_off h.z n (fun p hp => set6_other hp) (Nat.le_of_eq set6_size.symm)) (dn_off h.z m (fun p hp => set6_other hp) (Nat.le_of_eq set6_size.symm)), E.set6 hg⟩
theorem Zi.keep {w2 : World} {g g' : Nat} {x y z x' y' z' a b c a' b' c' : Value} (B : Bx w2 g' a b c a' b' c') (hg : g' ≠ g) : Bx ((((((w2.setCell ⟨g, 0, none⟩ x).setCell ⟨g, 1, none⟩ y).setCell ⟨g, 2, none⟩ z).setCell ⟨g, 3, none⟩ x').setCell ⟨g, 4, none⟩ y').setCell ⟨g, 5, none⟩ z') g' a b c a' b' c' :=
  ⟨(set6_other hg).trans B.c0, (set6_other hg).trans B.c1, (set6_other hg).trans B.c2, (set6_other hg).trans B.c3, (set6_other hg).trans B.c4, (set6_other hg).trans B.c5⟩

end Go.Proofs.YtimdglgianheiaaGreatDoor
