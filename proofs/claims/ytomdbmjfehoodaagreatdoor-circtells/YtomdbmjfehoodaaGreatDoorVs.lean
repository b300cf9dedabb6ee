/- Variables of enclosures whose numbers are small: no natural's row lies in them, since no power of two there is above 0. -/
import Derived.Test.YtomdbmjfehoodaaGreatDoorMP
set_option maxRecDepth 8000
namespace Go.Proofs.YtomdbmjfehoodaaGreatDoor
open Go.RowKit
set_option linter.unusedVariables false
theorem row_offn {w w' : World} {g : Nat} {v : Value} {xs : List Int} (hz : ∀ j x, w.cell? ⟨g, j, none⟩ = some (.int .i64 x) → x ≤ 0) (r : Row w v xs) (n : NF xs) (hs : ∀ p : Addr, p.block ≠ g → w'.cell? p = w.cell? p) (hw : w.heap.size ≤ w'.heap.size) : Row w' v xs := by
  obtain ⟨A, c, rfl, h1, h2, h3⟩ := r
  refine ⟨A, c, rfl, h1, h2, fun hl => ?_⟩
  obtain ⟨b, off, rfl, hb, hc⟩ := h3 hl
  have hne : b ≠ g := by
    rintro rfl
    have hk := hc (xs.length - 1) (by omega)
    have htop : nth xs (xs.length - 1) ≠ 0 := by
      rcases n.2 with e | e
      · subst e; simp at hl
      · exact e
    have := hz _ _ hk
    have := (n.1 (xs.length - 1) (by omega)).1
    omega
  exact ⟨b, off, rfl, by omega, fun j hj => by rw [hs _ hne]; exact hc j hj⟩
theorem dn_offn {w w' : World} {g : Nat} {v : Value} {d : Dyadic} (hz : ∀ j x, w.cell? ⟨g, j, none⟩ = some (.int .i64 x) → x ≤ 0) (n : Dn w v d) (hs : ∀ p : Addr, p.block ≠ g → w'.cell? p = w.cell? p) (hw : w.heap.size ≤ w'.heap.size) : Dn w' v d := by
  obtain ⟨M, z, e, rfl, ⟨xs, r, nf, ev⟩, h2, h3⟩ := n
  exact ⟨M, z, e, rfl, ⟨xs, row_offn hz r nf hs hw, nf, ev⟩, h2, h3⟩
theorem in_offn {w w' : World} {g : Nat} {v : Value} {l u : Dyadic} (hz : ∀ j x, w.cell? ⟨g, j, none⟩ = some (.int .i64 x) → x ≤ 0) (n : In w v l u) (hs : ∀ p : Addr, p.block ≠ g → w'.cell? p = w.cell? p) (hw : w.heap.size ≤ w'.heap.size) : In w' v l u := by
  obtain ⟨b, A, k, c, e, b', A', k', c', e', rfl, h1, h2⟩ := n
  exact ⟨b, A, k, c, e, b', A', k', c', e', rfl, dn_offn hz h1 hs hw, dn_offn hz h2 hs hw⟩
/-- At g lies a variable that may be stored into; the powers of two in it are at most 0. -/
structure Vr (w : World) (g : Nat) (x y z x' y' z' : Value) : Prop where
  c0 : w.cell? ⟨g, 0, none⟩ = some x
  c1 : w.cell? ⟨g, 1, none⟩ = some y
  c2 : w.cell? ⟨g, 2, none⟩ = some z
  c3 : w.cell? ⟨g, 3, none⟩ = some x'
  c4 : w.cell? ⟨g, 4, none⟩ = some y'
  c5 : w.cell? ⟨g, 5, none⟩ = some z'
  f : ∀ j, w.frozen? ⟨g, j, none⟩ = false
  n : ∀ j i, w.cell? ⟨g, j, none⟩ = some (.int .i64 i) → i ≤ 0
theorem Vr.bx {w : World} {g : Nat} {x y z x' y' z' : Value} (h : Vr w g x y z x' y' z') : Bx w g x y z x' y' z' := ⟨h.c0, h.c1, h.c2, h.c3, h.c4, h.c5⟩
theorem Vr.ext {w w' : World} {g : Nat} {x y z x' y' z' : Value} (h : Vr w g x y z x' y' z') (E : Ext w w') : Vr w' g x y z x' y' z' := by
  have hg : g < w.heap.size := World.block_lt_of_cell? w _ h.c0
  exact ⟨(E.cell hg).trans h.c0, (E.cell hg).trans h.c1, (E.cell hg).trans h.c2, (E.cell hg).trans h.c3, (E.cell hg).trans h.c4, (E.cell hg).trans h.c5, fun j => (E.frozen hg).trans (h.f j), fun j i k => h.n j i ((E.cell hg).symm.trans k)⟩
theorem Zi.vr {w : World} {g : Nat} (h : Zi w g) : Vr w g (.bool false) (.slice none 0 0) (.int .i64 0) (.bool false) (.slice none 0 0) (.int .i64 0) :=
  ⟨h.c0, h.c1, h.c2, h.c3, h.c4, h.c5, h.f, fun j i k => by have := h.z j i k; omega⟩
theorem frozen_set6 {w : World} {g : Nat} {x y z x' y' z' : Value} (p : Addr) : (set6 w g x y z x' y' z').frozen? p = w.frozen? p := by
  unfold set6; simp only [World.frozen?_setCell]
theorem set6_far {w : World} {g i : Nat} {x y z x' y' z' : Value} (h : 6 ≤ i) : (set6 w g x y z x' y' z').cell? ⟨g, i, none⟩ = w.cell? ⟨g, i, none⟩ := by
  have o : ∀ (W : World) (a : Nat) (v : Value), a < 6 → (W.setCell ⟨g, a, none⟩ v).cell? ⟨g, i, none⟩ = W.cell? ⟨g, i, none⟩ := fun W a v ha => World.cell?_setCell_other _ _ _ _ (fun e => by injection e; omega)
  unfold set6
  rw [o _ 5 _ (by omega), o _ 4 _ (by omega), o _ 3 _ (by omega), o _ 2 _ (by omega), o _ 1 _ (by omega), o _ 0 _ (by omega)]
/-- New numbers are laid there. -/
theorem Vr.set {w : World} {g : Nat} {x y z x' y' z' : Value} (h : Vr w g x y z x' y' z') (b b' : Bool) (A A' : Option Addr) (l c l' c' : Nat) (j j' : Int) (hj : j ≤ 0) (hj' : j' ≤ 0) : Vr (set6 w g (.bool b) (.slice A l c) (.int .i64 j) (.bool b') (.slice A' l' c') (.int .i64 j')) g (.bool b) (.slice A l c) (.int .i64 j) (.bool b') (.slice A' l' c') (.int .i64 j') := by
  have B := set6_same (x := .bool b) (y := .slice A l c) (z := .int .i64 j) (x' := .bool b') (y' := .slice A' l' c') (z' := .int .i64 j') h.bx
  refine ⟨B.c0, B.c1, B.c2, B.c3, B.c4, B.c5, fun i => (frozen_set6 _).trans (h.f i), fun i k hk => ?_⟩
  rcases (show i = 0 ∨ i = 1 ∨ i = 2 ∨ i = 3 ∨ i = 4 ∨ i = 5 ∨ 6 ≤ i by omega) with rfl | rfl | rfl | rfl | rfl | rfl | hi
  · rw [B.c0] at hk; injection hk with hk; injection hk
  · rw [B.c1] at hk; injection hk with hk; injection hk
  · rw [B.c2] at hk; injection hk with hk; injection hk with _ hk; omega
  · rw [B.c3] at hk; injection hk with hk; injection hk
  · rw [B.c4] at hk; injection hk with hk; injection hk
  · rw [B.c5] at hk; injection hk with hk; injection hk with _ hk; omega
  · exact h.n i k ((set6_far (by omega)).symm.trans hk)
theorem Vr.other {w : World} {g g' : Nat} {x y z x' y' z' a b c a' b' c' : Value} (h : Vr w g x y z x' y' z') (hg : g ≠ g') : Vr (set6 w g' a b c a' b' c') g x y z x' y' z' :=
  ⟨(set6_other hg).trans h.c0, (set6_other hg).trans h.c1, (set6_other hg).trans h.c2, (set6_other hg).trans h.c3, (set6_other hg).trans h.c4, (set6_other hg).trans h.c5, fun j => (frozen_set6 _).trans (h.f j), fun j i k => h.n j i ((set6_other (p := ⟨g, j, none⟩) hg).symm.trans k)⟩
theorem Zi.other {w : World} {g g' : Nat} {a b c a' b' c' : Value} (h : Zi w g) (hg : g ≠ g') : Zi (set6 w g' a b c a' b' c') g :=
  ⟨(set6_other hg).trans h.c0, (set6_other hg).trans h.c1, (set6_other hg).trans h.c2, (set6_other hg).trans h.c3, (set6_other hg).trans h.c4, (set6_other hg).trans h.c5, fun j i k => h.z j i ((set6_other (p := ⟨g, j, none⟩) hg).symm.trans k), fun j => (frozen_set6 _).trans (h.f j)⟩
theorem Bx.other {w : World} {g g' : Nat} {x y z x' y' z' a b c a' b' c' : Value} (h : Bx w g x y z x' y' z') (hg : g ≠ g') : Bx (set6 w g' a b c a' b' c') g x y z x' y' z' :=
  ⟨(set6_other hg).trans h.c0, (set6_other hg).trans h.c1, (set6_other hg).trans h.c2, (set6_other hg).trans h.c3, (set6_other hg).trans h.c4, (set6_other hg).trans h.c5⟩
theorem Vr.off {w : World} {g : Nat} {x y z x' y' z' v : Value} {l u : Dyadic} (h : Vr w g x y z x' y' z') (t : In w v l u) (a b c a' b' c' : Value) : In (set6 w g a b c a' b' c') v l u :=
  in_offn h.n t (fun p hp => set6_other hp) (Nat.le_of_eq set6_size.symm)
theorem Zi.off {w : World} {g : Nat} {v : Value} {l u : Dyadic} (h : Zi w g) (t : In w v l u) (a b c a' b' c' : Value) : In (set6 w g a b c a' b' c') v l u := h.vr.off t a b c a' b' c'
theorem Zi.put {w : World} {g : Nat} (h : Zi w g) (x y z x' y' z' : Value) : Bx (set6 w g x y z x' y' z') g x y z x' y' z' := set6_same h.bx
theorem Dn.exp {w : World} {b : Bool} {A : Option Addr} {l c : Nat} {j : Int} {d : Dyadic} (h : Dn w (.agg #[.bool b, .slice A l c, .int .i64 j]) d) (h1 : -dy 1 1 < d) (h2 : d < dy 1 1) : j ≤ 0 := by
  obtain ⟨M, z, e, hv, _, hc, rfl⟩ := h
  simp only [Value.agg.injEq, Array.mk.injEq, List.cons.injEq, Value.int.injEq, and_true] at hv
  obtain ⟨_, _, _, rfl⟩ := hv
  rcases hc.out with ⟨_, rfl⟩ | ho
  · omega
  · rcases Int.lt_or_le 0 j with g | g
    · exfalso
      obtain ⟨t, rfl⟩ : ∃ t : Nat, j = 1 + (t : Int) := ⟨(j - 1).toNat, by omega⟩
      rw [← dy_up] at h1 h2
      rw [dy_neg, dy_lt] at h1
      rw [dy_lt] at h2
      have := pow2_pos t
      rcases Int.lt_or_le z 0 with k | k
      · have := Int.mul_le_mul_of_nonneg_right (show z ≤ -1 by omega) (show 0 ≤ (2 : Int) ^ t by omega)
        omega
      · have := Int.mul_le_mul_of_nonneg_right (show 1 ≤ z by omega) (show 0 ≤ (2 : Int) ^ t by omega)
        omega
    · exact g
/-- An enclosure between -2 and 2, taken apart. -/
theorem In.small {w : World} {v : Value} {l u : Dyadic} (h : In w v l u) (h1 : -dy 1 1 < l) (h2 : l < dy 1 1) (h3 : -dy 1 1 < u) (h4 : u < dy 1 1) : ∃ (b : Bool) (A : Option Addr) (n c : Nat) (e : Int) (b' : Bool) (A' : Option Addr) (n' c' : Nat) (e' : Int),
    v = .agg #[.bool b, .slice A n c, .int .i64 e, .bool b', .slice A' n' c', .int .i64 e'] ∧ e ≤ 0 ∧ e' ≤ 0 := by
  obtain ⟨b, A, n, c, e, b', A', n', c', e', rfl, a1, a2⟩ := h
  exact ⟨b, A, n, c, e, b', A', n', c', e', rfl, a1.exp h1 h2, a2.exp h3 h4⟩
theorem In.form {w : World} {v : Value} {l u : Dyadic} (h : In w v l u) : ∃ (b : Bool) (A : Option Addr) (n c : Nat) (e : Int) (b' : Bool) (A' : Option Addr) (n' c' : Nat) (e' : Int),
    v = .agg #[.bool b, .slice A n c, .int .i64 e, .bool b', .slice A' n' c', .int .i64 e'] := by
  obtain ⟨b, A, n, c, e, b', A', n', c', e', rfl, _⟩ := h
  exact ⟨b, A, n, c, e, b', A', n', c', e', rfl⟩
theorem one_two : (1 : Dyadic) < dy 1 1 := by
  have := (dy_lt (x := 1) (y := 2) (e := 0)).2 (by omega)
  rw [show dy 1 1 = dy 2 0 from (dy_up 1 0 1).symm ▸ rfl]
  exact this
theorem In.unit {w : World} {v : Value} {l u : Dyadic} (h : In w v l u) (h1 : -1 ≤ l) (h2 : l ≤ u) (h3 : u ≤ 1) : ∃ (b : Bool) (A : Option Addr) (n c : Nat) (e : Int) (b' : Bool) (A' : Option Addr) (n' c' : Nat) (e' : Int),
    v = .agg #[.bool b, .slice A n c, .int .i64 e, .bool b', .slice A' n' c', .int .i64 e'] ∧ e ≤ 0 ∧ e' ≤ 0 := by
  have := one_two
  exact h.small (by grind) (by grind) (by grind) (by grind)
theorem cellx {w w' : World} {g : Nat} {x : Value} (h : w.cell? ⟨g, 0, none⟩ = some x) (E : Ext w w') : w'.cell? ⟨g, 0, none⟩ = some x :=
  (E.cell (p := ⟨g, 0, none⟩) (World.block_lt_of_cell? w _ h)).trans h
theorem cello {w : World} {g g' : Nat} {x a b c a' b' c' : Value} (h : w.cell? ⟨g, 0, none⟩ = some x) (hg : g ≠ g') : (set6 w g' a b c a' b' c').cell? ⟨g, 0, none⟩ = some x := (set6_other (p := ⟨g, 0, none⟩) hg).trans h
end Go.Proofs.YtomdbmjfehoodaaGreatDoor
