/- Walks of the document's answers on enclosures: Mul. -/
import Derived.Test.YtomdbmjfehoodaaGreatDoorPG
import Derived.Test.YtomdbmjfehoodaaGreatDoorRF
import Derived.Deep.Cut
set_option maxRecDepth 8000
namespace Go.Proofs.YtomdbmjfehoodaaGreatDoor
open Go.RowKit
set_option linter.unusedVariables false
/-- The three cells of an element. -/
structure Tri (w : World) (g o : Nat) (x y z : Value) : Prop where
  c0 : w.cell? ⟨g, o, none⟩ = some x
  c1 : w.cell? ⟨g, o + 1, none⟩ = some y
  c2 : w.cell? ⟨g, o + 2, none⟩ = some z
theorem Tri.ext {w w' : World} {g o : Nat} {x y z : Value} (h : Tri w g o x y z) (E : Ext w w') : Tri w' g o x y z := by
  have hg : g < w.heap.size := World.block_lt_of_cell? w _ h.c0
  exact ⟨(E.cell hg).trans h.c0, (E.cell hg).trans h.c1, (E.cell hg).trans h.c2⟩
theorem tri3 {w : World} {g o : Nat} {x y z : Value} (h : Tri w g o x y z) : w.cell? ⟨g, o, none⟩ = some x ∧ w.cell? ⟨g, o + 1, none⟩ = some y ∧ w.cell? ⟨g, o + 2, none⟩ = some z := ⟨h.c0, h.c1, h.c2⟩
/-- At g lie four numbers. -/
def Four (w : World) (g : Nat) (p : Nat → Dyadic) : Prop := ∀ q, q < 4 → ∃ (b : Bool) (A : Option Addr) (n c : Nat) (e : Int), Tri w g (q * 3) (.bool b) (.slice A n c) (.int .i64 e) ∧ Dn w (.agg #[.bool b, .slice A n c, .int .i64 e]) (p q)
theorem Four.ext {w w' : World} {g : Nat} {p : Nat → Dyadic} (h : Four w g p) (E : Ext w w') : Four w' g p := fun q hq => by
  obtain ⟨b, A, n, c, e, h1, h2⟩ := h q hq
  exact ⟨b, A, n, c, e, h1.ext E, h2.ext E⟩
def p4 (a b c d : Dyadic) (q : Nat) : Dyadic := if q = 0 then a else if q = 1 then b else if q = 2 then c else d
/-- The least, and the greatest, of those up to the j-th. -/
def fmin (p : Nat → Dyadic) : Nat → Dyadic
  | 0 => p 0
  | j + 1 => dmin (fmin p j) (p (j + 1))
def fmax (p : Nat → Dyadic) : Nat → Dyadic
  | 0 => p 0
  | j + 1 => dmax (fmax p j) (p (j + 1))
theorem fmin_lt {p : Nat → Dyadic} {j : Nat} (h : p (j + 1) < fmin p j) : fmin p (j + 1) = p (j + 1) := if_pos h
theorem fmin_ge {p : Nat → Dyadic} {j : Nat} (h : ¬ p (j + 1) < fmin p j) : fmin p (j + 1) = fmin p j := if_neg h
theorem fmax_lt {p : Nat → Dyadic} {j : Nat} (h : fmax p j < p (j + 1)) : fmax p (j + 1) = p (j + 1) := if_pos h
theorem fmax_ge {p : Nat → Dyadic} {j : Nat} (h : ¬ fmax p j < p (j + 1)) : fmax p (j + 1) = fmax p j := if_neg h
theorem fmin_eq (p : Nat → Dyadic) {j q : Nat} (h : q = j + 1) : (p q < fmin p j → fmin p (j + 1) = p q) ∧ (¬ p q < fmin p j → fmin p (j + 1) = fmin p j) := by subst h; exact ⟨fmin_lt, fmin_ge⟩
theorem fmax_eq (p : Nat → Dyadic) {j q : Nat} (h : q = j + 1) : (fmax p j < p q → fmax p (j + 1) = p q) ∧ (¬ fmax p j < p q → fmax p (j + 1) = fmax p j) := by subst h; exact ⟨fmax_lt, fmax_ge⟩
theorem fmin_rg {P Q : Nat} {p : Nat → Dyadic} (h : ∀ j, j < 4 → Rg P Q (p j)) : ∀ j, j < 4 → Rg P Q (fmin p j)
  | 0, _ => h 0 (by omega)
  | j + 1, hj => rg_dmin (fmin_rg h j (by omega)) (h (j + 1) hj)
theorem fmax_rg {P Q : Nat} {p : Nat → Dyadic} (h : ∀ j, j < 4 → Rg P Q (p j)) : ∀ j, j < 4 → Rg P Q (fmax p j)
  | 0, _ => h 0 (by omega)
  | j + 1, hj => rg_dmax (fmax_rg h j (by omega)) (h (j + 1) hj)
/-- At g, laid since V, lies the enclosure from L to H, of numbers that were there at V. -/
structure Ot (V w : World) (g : Nat) (L H : Dyadic) : Prop where
  out : ∃ (b : Bool) (A : Option Addr) (n c : Nat) (e : Int) (b' : Bool) (A' : Option Addr) (n' c' : Nat) (e' : Int),
    Bx w g (.bool b) (.slice A n c) (.int .i64 e) (.bool b') (.slice A' n' c') (.int .i64 e') ∧ Dn V (.agg #[.bool b, .slice A n c, .int .i64 e]) L ∧ Dn V (.agg #[.bool b', .slice A' n' c', .int .i64 e']) H
  fz : ∀ j, w.frozen? ⟨g, j, none⟩ = false
  ext : Ext V w
  later : V.heap.size ≤ g
theorem Ot.low {V w w' : World} {g : Nat} {L H d : Dyadic} {b b' : Bool} {A A' : Option Addr} {n c n' c' : Nat} {e e' : Int} {x y z : Value} (E : Ext V w) (hg : V.heap.size ≤ g) (f : ∀ j, w.frozen? ⟨g, j, none⟩ = false)
    (B : Bx w g x y z (.bool b') (.slice A' n' c') (.int .i64 e')) (m : Dn V (.agg #[.bool b', .slice A' n' c', .int .i64 e']) H) (k : Dn V (.agg #[.bool b, .slice A n c, .int .i64 e]) d) :
    Ot V (((w.setCell ⟨g, 0, none⟩ (.bool b)).setCell ⟨g, 1, none⟩ (.slice A n c)).setCell ⟨g, 2, none⟩ (.int .i64 e)) g d H :=
  ⟨⟨_, _, _, _, _, _, _, _, _, _, set3_lo B, k, m⟩, fun j => by simp only [World.frozen?_setCell]; exact f j, ((E.setCell hg _).setCell hg _).setCell hg _, hg⟩
theorem Ot.high {V w w' : World} {g : Nat} {L H d : Dyadic} {b b' : Bool} {A A' : Option Addr} {n c n' c' : Nat} {e e' : Int} {x y z : Value} (E : Ext V w) (hg : V.heap.size ≤ g) (f : ∀ j, w.frozen? ⟨g, j, none⟩ = false)
    (B : Bx w g (.bool b') (.slice A' n' c') (.int .i64 e') x y z) (m : Dn V (.agg #[.bool b', .slice A' n' c', .int .i64 e']) L) (k : Dn V (.agg #[.bool b, .slice A n c, .int .i64 e]) d) :
    Ot V (((w.setCell ⟨g, 3, none⟩ (.bool b)).setCell ⟨g, 4, none⟩ (.slice A n c)).setCell ⟨g, 5, none⟩ (.int .i64 e)) g L d :=
  ⟨⟨_, _, _, _, _, _, _, _, _, _, set3_hi B, m, k⟩, fun j => by simp only [World.frozen?_setCell]; exact f j, ((E.setCell hg _).setCell hg _).setCell hg _, hg⟩
theorem Ot.later' {V w w' : World} {g : Nat} {L H : Dyadic} (h : Ot V w g L H) (E : Ext w w') : Ot V w' g L H := by
  obtain ⟨b, A, n, c, e, b', A', n', c', e', B, k, m⟩ := h.out
  have hg : g < w.heap.size := World.block_lt_of_cell? w _ B.c0
  exact ⟨⟨b, A, n, c, e, b', A', n', c', e', B.ext E, k, m⟩, fun j => (E.frozen hg).trans (h.fz j), h.ext.trans E, h.later⟩
theorem rpoint_form (w : World) (b : Bool) (A : Option Addr) (n c : Nat) (e : Int) : Calls Tryz.prog 38 #[.agg #[.bool b, .slice A n c, .int .i64 e]] w (fun r w' => r = .returned (.agg #[.bool b, .slice A n c, .int .i64 e, .bool b, .slice A n c, .int .i64 e]) ∧ Ext w w') := by
  go_enter Tryz.func38, Tryz.ntmps38
  go_wp2
  refine bodyPost_ret (v := .agg #[.bool b, .slice A n c, .int .i64 e, .bool b, .slice A n c, .int .i64 e]) (by simp [results, Tryz.results38, go_sem]) rfl ?_
  exact ⟨rfl, ((Ext.refl w).alloc _).alloc _⟩
theorem rcmpz_lit (w : World) (va vb : Value) (x y : Dyadic) (P Q : Nat) (r : Int) (h : cmpD x y = r) (ha : Dn w va x) (hb : Dn w vb y) (hx : Rg P Q x) (hy : Rg P Q y) (h1 : P + Q ≤ 4800) : Calls Tryz.prog 23 #[va, vb] w (RetE w (.int .i64 r)) := by
  subst h; exact rcmpD_any w va vb x y P Q ha hb hx hy (by omega)
theorem cmp_gt (x y : Dyadic) : 0 < cmpD x y ↔ y < x := by
  unfold cmpD
  split
  · rename_i h; exact ⟨fun _ => by omega, fun _ => by grind⟩
  · split
    · rename_i h; exact ⟨fun _ => by omega, fun _ => by grind⟩
    · exact ⟨fun h => by grind, fun h => by omega⟩
theorem tri_keep {w : World} {g g' o : Nat} {x y z a b c : Value} (h : Tri w g' o x y z) (hg : g' ≠ g) : Tri (((w.setCell ⟨g, 0, none⟩ a).setCell ⟨g, 1, none⟩ b).setCell ⟨g, 2, none⟩ c) g' o x y z := ⟨(set3_other hg).trans h.c0, (set3_other hg).trans h.c1, (set3_other hg).trans h.c2⟩
set_option maxRecDepth 10000 in
set_option maxHeartbeats 4000000 in
theorem rimul_any (w : World) (va vb : Value) (x1 x2 y1 y2 : Dyadic) (P Q P' Q' : Nat) (ha : In w va x1 x2) (hb : In w vb y1 y2) (r1 : Rg P Q x1) (r2 : Rg P Q x2) (r3 : Rg P' Q' y1) (r4 : Rg P' Q' y2) (hp : P + Q + (P' + Q') ≤ 4800) :
    Calls Tryz.prog 31 #[va, vb] w (RetI w (mlo x1 x2 y1 y2) (mhi x1 x2 y1 y2)) := by
  obtain ⟨ba, Aa, na, ca, ea, ba', Aa', na', ca', ea', rfl, a1, a2⟩ := ha
  obtain ⟨bb, Ab, nb, cb, eb, bb', Ab', nb', cb', eb', rfl, b1, b2⟩ := hb
  go_enter Tryz.func31, Tryz.ntmps31
  go_wp2
  generalize hW0 : (((w.alloc (.cells #[.bool ba, .slice Aa na ca, .int .i64 ea, .bool ba', .slice Aa' na' ca', .int .i64 ea'] 33)).alloc (.cells #[.bool bb, .slice Ab nb cb, .int .i64 eb, .bool bb', .slice Ab' nb' cb', .int .i64 eb'] 33)).alloc (.cells #[.bool false, .slice none 0 0, .int .i64 0, .bool false, .slice none 0 0, .int .i64 0] 33)) = W0
  have Ba : Bx W0 (w.heap.size) (.bool ba) (.slice Aa na ca) (.int .i64 ea) (.bool ba') (.slice Aa' na' ca') (.int .i64 ea') := by rw [← hW0]; exact Bx.at (((Ext.refl _).alloc _).alloc _) (by simp)
  have Bb : Bx W0 (w.heap.size + 1) (.bool bb) (.slice Ab nb cb) (.int .i64 eb) (.bool bb') (.slice Ab' nb' cb') (.int .i64 eb') := by rw [← hW0]; exact Bx.at ((Ext.refl _).alloc _) (by simp)
  have Z0 : Zi W0 (w.heap.size + 1 + 1) := by rw [← hW0]; exact Zi.at (Ext.refl _) (by simp)
  have E0 : Ext w W0 := by rw [← hW0]; exact ((((Ext.refl w).alloc _).alloc _).alloc _)
  obtain ⟨Ba_0, Ba_1, Ba_2, Ba_3, Ba_4, Ba_5⟩ := id Ba
  have NBa : (w.heap.size : Nat) ≠ w.heap.size + 1 + 1 := by omega
  obtain ⟨Bb_0, Bb_1, Bb_2, Bb_3, Bb_4, Bb_5⟩ := id Bb
  have NBb : (w.heap.size + 1 : Nat) ≠ w.heap.size + 1 + 1 := by omega
  replace a1 := a1.ext E0
  replace a2 := a2.ext E0
  replace b1 := b1.ext E0
  replace b2 := b2.ext E0
  clear hW0
  refine wp_region_held_drew (S := (fun w' => (w'.cell? ⟨w.heap.size, 0, none⟩ = some (.bool ba) ∧ w'.cell? ⟨w.heap.size, 1, none⟩ = some (.slice Aa na ca) ∧ w'.cell? ⟨w.heap.size, 2, none⟩ = some (.int .i64 ea) ∧ w'.cell? ⟨w.heap.size, 3, none⟩ = some (.bool ba') ∧ w'.cell? ⟨w.heap.size, 4, none⟩ = some (.slice Aa' na' ca') ∧ w'.cell? ⟨w.heap.size, 5, none⟩ = some (.int .i64 ea')) ∧ (w'.cell? ⟨w.heap.size + 1, 0, none⟩ = some (.bool bb) ∧ w'.cell? ⟨w.heap.size + 1, 1, none⟩ = some (.slice Ab nb cb) ∧ w'.cell? ⟨w.heap.size + 1, 2, none⟩ = some (.int .i64 eb) ∧ w'.cell? ⟨w.heap.size + 1, 3, none⟩ = some (.bool bb') ∧ w'.cell? ⟨w.heap.size + 1, 4, none⟩ = some (.slice Ab' nb' cb') ∧ w'.cell? ⟨w.heap.size + 1, 5, none⟩ = some (.int .i64 eb')))) (by as_aux_lemma => kernel_rfl) ⟨bx6 (Ba.ext (Ext.refl W0).drew), bx6 (Bb.ext (Ext.refl W0).drew)⟩ (fun hHeld => ?_)
  refine wpAnyH_take (i := 0) (v := ?_) rfl (by as_aux_lemma => kernel_rfl) (by as_aux_lemma => kernel_rfl) (by as_aux_lemma => kernel_rfl) (fun _ _ _ h => h) (Or.inl ⟨by rfl, ?_⟩) (by assumption) ?_
  rotate_left
  · (intro w hSw; (try dsimp only at hSw); go_simp); (try with_reducible rfl)
  simp only [List.getElem_toArray, List.getElem_cons_zero, Act.put, List.setIfInBounds_toArray, List.set_cons_zero, List.set_cons_succ]
  refine wpAnyH_take (i := 2) (v := ?_) rfl (by as_aux_lemma => kernel_rfl) (by as_aux_lemma => kernel_rfl) (by as_aux_lemma => kernel_rfl) (fun _ _ _ h => h) (Or.inl ⟨by rfl, ?_⟩) (by assumption) ?_
  rotate_left
  · (intro w hSw; (try dsimp only at hSw); go_simp); (try with_reducible rfl)
  simp only [List.getElem_toArray, List.getElem_cons_zero, List.getElem_cons_succ, Act.put, List.setIfInBounds_toArray, List.set_cons_zero, List.set_cons_succ]
  refine wpAnyH_take (i := 5) (v := ?_) rfl (by as_aux_lemma => kernel_rfl) (by as_aux_lemma => kernel_rfl) (by as_aux_lemma => kernel_rfl) (fun _ _ _ h => h) (Or.inl ⟨by rfl, ?_⟩) (by assumption) ?_
  rotate_left
  · (intro w hSw; (try dsimp only at hSw); go_simp); (try with_reducible rfl)
  simp only [List.getElem_toArray, List.getElem_cons_zero, List.getElem_cons_succ, Act.put, List.setIfInBounds_toArray, List.set_cons_zero, List.set_cons_succ]
  refine wpAnyH_take (i := 7) (v := ?_) rfl (by as_aux_lemma => kernel_rfl) (by as_aux_lemma => kernel_rfl) (by as_aux_lemma => kernel_rfl) (fun _ _ _ h => h) (Or.inl ⟨by rfl, ?_⟩) (by assumption) ?_
  rotate_left
  · (intro w hSw; (try dsimp only at hSw); go_simp); (try with_reducible rfl)
  simp only [List.getElem_toArray, List.getElem_cons_zero, List.getElem_cons_succ, Act.put, List.setIfInBounds_toArray, List.set_cons_zero, List.set_cons_succ]
  refine wpAnyH_take (i := 10) (v := ?_) rfl (by as_aux_lemma => kernel_rfl) (by as_aux_lemma => kernel_rfl) (by as_aux_lemma => kernel_rfl) (fun _ _ _ h => h) (Or.inl ⟨by rfl, ?_⟩) (by assumption) ?_
  rotate_left
  · (intro w hSw; (try dsimp only at hSw); go_simp); (try with_reducible rfl)
  simp only [List.getElem_toArray, List.getElem_cons_zero, List.getElem_cons_succ, Act.put, List.setIfInBounds_toArray, List.set_cons_zero, List.set_cons_succ]
  refine wpAnyH_take (i := 12) (v := ?_) rfl (by as_aux_lemma => kernel_rfl) (by as_aux_lemma => kernel_rfl) (by as_aux_lemma => kernel_rfl) (fun _ _ _ h => h) (Or.inl ⟨by rfl, ?_⟩) (by assumption) ?_
  rotate_left
  · (intro w hSw; (try dsimp only at hSw); go_simp); (try with_reducible rfl)
  simp only [List.getElem_toArray, List.getElem_cons_zero, List.getElem_cons_succ, Act.put, List.setIfInBounds_toArray, List.set_cons_zero, List.set_cons_succ]
  refine wpAnyH_take (i := 15) (v := ?_) rfl (by as_aux_lemma => kernel_rfl) (by as_aux_lemma => kernel_rfl) (by as_aux_lemma => kernel_rfl) (fun _ _ _ h => h) (Or.inl ⟨by rfl, ?_⟩) (by assumption) ?_
  rotate_left
  · (intro w hSw; (try dsimp only at hSw); go_simp); (try with_reducible rfl)
  simp only [List.getElem_toArray, List.getElem_cons_zero, List.getElem_cons_succ, Act.put, List.setIfInBounds_toArray, List.set_cons_zero, List.set_cons_succ]
  refine wpAnyH_take (i := 17) (v := ?_) rfl (by as_aux_lemma => kernel_rfl) (by as_aux_lemma => kernel_rfl) (by as_aux_lemma => kernel_rfl) (fun _ _ _ h => h) (Or.inl ⟨by rfl, ?_⟩) (by assumption) ?_
  rotate_left
  · (intro w hSw; (try dsimp only at hSw); go_simp); (try with_reducible rfl)
  simp only [List.getElem_toArray, List.getElem_cons_zero, List.getElem_cons_succ, Act.put, List.setIfInBounds_toArray, List.set_cons_zero, List.set_cons_succ]
  refine wpAnyH_take (i := 1) (v := ?_) rfl (by as_aux_lemma => kernel_rfl) (by as_aux_lemma => kernel_rfl) (by as_aux_lemma => kernel_rfl) (fun _ _ _ h => h) (Or.inl ⟨by rfl, ?_⟩) (by assumption) ?_
  rotate_left
  · (intro w hSw; (try dsimp only at hSw); go_simp); (try with_reducible rfl)
  simp only [List.getElem_toArray, List.getElem_cons_zero, List.getElem_cons_succ, Act.put, List.setIfInBounds_toArray, List.set_cons_zero, List.set_cons_succ]
  refine wpAnyH_take (i := 3) (v := ?_) rfl (by as_aux_lemma => kernel_rfl) (by as_aux_lemma => kernel_rfl) (by as_aux_lemma => kernel_rfl) (fun _ _ _ h => h) (Or.inl ⟨by rfl, ?_⟩) (by assumption) ?_
  rotate_left
  · (intro w hSw; (try dsimp only at hSw); go_simp); (try with_reducible rfl)
  simp only [List.getElem_toArray, List.getElem_cons_zero, List.getElem_cons_succ, Act.put, List.setIfInBounds_toArray, List.set_cons_zero, List.set_cons_succ]
  refine wpAnyH_take (i := 6) (v := ?_) rfl (by as_aux_lemma => kernel_rfl) (by as_aux_lemma => kernel_rfl) (by as_aux_lemma => kernel_rfl) (fun _ _ _ h => h) (Or.inl ⟨by rfl, ?_⟩) (by assumption) ?_
  rotate_left
  · (intro w hSw; (try dsimp only at hSw); go_simp); (try with_reducible rfl)
  simp only [List.getElem_toArray, List.getElem_cons_zero, List.getElem_cons_succ, Act.put, List.setIfInBounds_toArray, List.set_cons_zero, List.set_cons_succ]
  refine wpAnyH_take (i := 8) (v := ?_) rfl (by as_aux_lemma => kernel_rfl) (by as_aux_lemma => kernel_rfl) (by as_aux_lemma => kernel_rfl) (fun _ _ _ h => h) (Or.inl ⟨by rfl, ?_⟩) (by assumption) ?_
  rotate_left
  · (intro w hSw; (try dsimp only at hSw); go_simp); (try with_reducible rfl)
  simp only [List.getElem_toArray, List.getElem_cons_zero, List.getElem_cons_succ, Act.put, List.setIfInBounds_toArray, List.set_cons_zero, List.set_cons_succ]
  refine wpAnyH_take (i := 11) (v := ?_) rfl (by as_aux_lemma => kernel_rfl) (by as_aux_lemma => kernel_rfl) (by as_aux_lemma => kernel_rfl) (fun _ _ _ h => h) (Or.inl ⟨by rfl, ?_⟩) (by assumption) ?_
  rotate_left
  · (intro w hSw; (try dsimp only at hSw); go_simp); (try with_reducible rfl)
  simp only [List.getElem_toArray, List.getElem_cons_zero, List.getElem_cons_succ, Act.put, List.setIfInBounds_toArray, List.set_cons_zero, List.set_cons_succ]
  refine wpAnyH_take (i := 13) (v := ?_) rfl (by as_aux_lemma => kernel_rfl) (by as_aux_lemma => kernel_rfl) (by as_aux_lemma => kernel_rfl) (fun _ _ _ h => h) (Or.inl ⟨by rfl, ?_⟩) (by assumption) ?_
  rotate_left
  · (intro w hSw; (try dsimp only at hSw); go_simp); (try with_reducible rfl)
  simp only [List.getElem_toArray, List.getElem_cons_zero, List.getElem_cons_succ, Act.put, List.setIfInBounds_toArray, List.set_cons_zero, List.set_cons_succ]
  refine wpAnyH_take (i := 16) (v := ?_) rfl (by as_aux_lemma => kernel_rfl) (by as_aux_lemma => kernel_rfl) (by as_aux_lemma => kernel_rfl) (fun _ _ _ h => h) (Or.inl ⟨by rfl, ?_⟩) (by assumption) ?_
  rotate_left
  · (intro w hSw; (try dsimp only at hSw); go_simp); (try with_reducible rfl)
  simp only [List.getElem_toArray, List.getElem_cons_zero, List.getElem_cons_succ, Act.put, List.setIfInBounds_toArray, List.set_cons_zero, List.set_cons_succ]
  refine wpAnyH_take (i := 18) (v := ?_) rfl (by as_aux_lemma => kernel_rfl) (by as_aux_lemma => kernel_rfl) (by as_aux_lemma => kernel_rfl) (fun _ _ _ h => h) (Or.inl ⟨by rfl, ?_⟩) (by assumption) ?_
  rotate_left
  · (intro w hSw; (try dsimp only at hSw); go_simp); (try with_reducible rfl)
  simp only [List.getElem_toArray, List.getElem_cons_zero, List.getElem_cons_succ, Act.put, List.setIfInBounds_toArray, List.set_cons_zero, List.set_cons_succ]
  refine wpAnyH_ready (rs := [4]) (by as_aux_lemma => kernel_rfl) (by simp) ?_
  refine AllReadyH.cons rfl (fun K hK => ?_) AllReadyH.nil
  go_simp
  refine (rmulD_any _ _ _ x1 y1 P Q P' Q' (a1.ext (Ext.refl W0).drew) (b1.ext (Ext.refl W0).drew) r1 r3 (by omega) (by omega)).mono ?_
  rintro _ u1 ⟨vu1, rfl, m1, eu1⟩
  have F1 : Ext W0 u1 := (Ext.refl W0).drew.trans eu1
  obtain ⟨yu1, Yu1, pu1, qu1, xu1, rfl⟩ := m1.form
  refine hK.out _ _ ⟨bx6 (Ba.ext F1), bx6 (Bb.ext F1)⟩ (fun hHeld => ?_)
  clear hK K eu1
  refine wpAnyH_ready (rs := [9]) (by as_aux_lemma => kernel_rfl) (by simp) ?_
  refine AllReadyH.cons rfl (fun K hK => ?_) AllReadyH.nil
  go_simp
  refine (rmulD_any _ _ _ x1 y2 P Q P' Q' (a1.ext F1) (b2.ext F1) r1 r4 (by omega) (by omega)).mono ?_
  rintro _ u2 ⟨vu2, rfl, m2, eu2⟩
  have F2 : Ext W0 u2 := F1.trans eu2
  replace m1 := m1.ext eu2
  obtain ⟨yu2, Yu2, pu2, qu2, xu2, rfl⟩ := m2.form
  refine hK.out _ _ ⟨bx6 (Ba.ext F2), bx6 (Bb.ext F2)⟩ (fun hHeld => ?_)
  clear hK K eu2 F1
  refine wpAnyH_ready (rs := [14]) (by as_aux_lemma => kernel_rfl) (by simp) ?_
  refine AllReadyH.cons rfl (fun K hK => ?_) AllReadyH.nil
  go_simp
  refine (rmulD_any _ _ _ x2 y1 P Q P' Q' (a2.ext F2) (b1.ext F2) r2 r3 (by omega) (by omega)).mono ?_
  rintro _ u3 ⟨vu3, rfl, m3, eu3⟩
  have F3 : Ext W0 u3 := F2.trans eu3
  replace m1 := m1.ext eu3
  replace m2 := m2.ext eu3
  obtain ⟨yu3, Yu3, pu3, qu3, xu3, rfl⟩ := m3.form
  refine hK.out _ _ ⟨bx6 (Ba.ext F3), bx6 (Bb.ext F3)⟩ (fun hHeld => ?_)
  clear hK K eu3 F2
  refine wpAnyH_ready (rs := [19]) (by as_aux_lemma => kernel_rfl) (by simp) ?_
  refine AllReadyH.cons rfl (fun K hK => ?_) AllReadyH.nil
  go_simp
  refine (rmulD_any _ _ _ x2 y2 P Q P' Q' (a2.ext F3) (b2.ext F3) r2 r4 (by omega) (by omega)).mono ?_
  rintro _ u4 ⟨vu4, rfl, m4, eu4⟩
  have F4 : Ext W0 u4 := F3.trans eu4
  replace m1 := m1.ext eu4
  replace m2 := m2.ext eu4
  replace m3 := m3.ext eu4
  obtain ⟨yu4, Yu4, pu4, qu4, xu4, rfl⟩ := m4.form
  refine hK.out _ _ ⟨bx6 (Ba.ext F4), bx6 (Bb.ext F4)⟩ (fun hHeld => ?_)
  clear hK K eu4 F3
  refine wpAnyH_ready (rs := [20]) (by as_aux_lemma => kernel_rfl) (by simp) ?_
  refine AllReadyH.cons rfl (fun K hK => ?_) AllReadyH.nil
  go_simp
  refine hK.out _ _ ⟨bx6 (Ba.ext (F4.alloc _)), bx6 (Bb.ext (F4.alloc _))⟩ (fun hHeld => ?_)
  clear hK K
  refine wpAnyH_take (i := 21) (v := ?_) rfl (by as_aux_lemma => kernel_rfl) (by as_aux_lemma => kernel_rfl) (by as_aux_lemma => kernel_rfl) (fun _ _ _ h => h) (Or.inl ⟨by rfl, ?_⟩) (by assumption) ?_
  rotate_left
  · (intro w hSw; (try dsimp only at hSw); go_simp); (try with_reducible rfl)
  simp only [List.getElem_toArray, List.getElem_cons_zero, List.getElem_cons_succ, Act.put, List.setIfInBounds_toArray, List.set_cons_zero, List.set_cons_succ]
  refine wpAnyH_done (by as_aux_lemma => kernel_rfl) ?_ _
  have e5 : Ext W0 (u4.alloc (.cells #[.bool yu1, .slice Yu1 pu1 qu1, .int .i64 xu1, .bool yu2, .slice Yu2 pu2 qu2, .int .i64 xu2, .bool yu3, .slice Yu3 pu3 qu3, .int .i64 xu3, .bool yu4, .slice Yu4 pu4 qu4, .int .i64 xu4] 26)) := F4.alloc _
  have El : Four (u4.alloc (.cells #[.bool yu1, .slice Yu1 pu1 qu1, .int .i64 xu1, .bool yu2, .slice Yu2 pu2 qu2, .int .i64 xu2, .bool yu3, .slice Yu3 pu3 qu3, .int .i64 xu3, .bool yu4, .slice Yu4 pu4 qu4, .int .i64 xu4] 26)) u4.heap.size (p4 (x1 * y1) (x1 * y2) (x2 * y1) (x2 * y2)) := fun q hq => by
    obtain rfl | rfl | rfl | rfl : q = 0 ∨ q = 1 ∨ q = 2 ∨ q = 3 := by omega
    · exact ⟨_, _, _, _, _, ⟨by rw [World.cell?_alloc_new]; rfl, by rw [World.cell?_alloc_new]; rfl, by rw [World.cell?_alloc_new]; rfl⟩, m1.ext ((Ext.refl _).alloc _)⟩
    · exact ⟨_, _, _, _, _, ⟨by rw [World.cell?_alloc_new]; rfl, by rw [World.cell?_alloc_new]; rfl, by rw [World.cell?_alloc_new]; rfl⟩, m2.ext ((Ext.refl _).alloc _)⟩
    · exact ⟨_, _, _, _, _, ⟨by rw [World.cell?_alloc_new]; rfl, by rw [World.cell?_alloc_new]; rfl, by rw [World.cell?_alloc_new]; rfl⟩, m3.ext ((Ext.refl _).alloc _)⟩
    · exact ⟨_, _, _, _, _, ⟨by rw [World.cell?_alloc_new]; rfl, by rw [World.cell?_alloc_new]; rfl, by rw [World.cell?_alloc_new]; rfl⟩, m4.ext ((Ext.refl _).alloc _)⟩
  have hR : ∀ j, j < 4 → Rg (P + P') (Q + Q') (p4 (x1 * y1) (x1 * y2) (x2 * y1) (x2 * y2) j) := fun j hj => by
    obtain rfl | rfl | rfl | rfl : j = 0 ∨ j = 1 ∨ j = 2 ∨ j = 3 := by omega
    · exact r1.mul r3
    · exact r1.mul r4
    · exact r2.mul r3
    · exact r2.mul r4
  have Z1 := Z0.ext e5
  have E5 := E0.trans e5
  clear e5 F4 m1 m2 m3 m4 Ba Bb Z0 E0 a1 a2 b1 b2 hHeld Ba_0 Ba_1 Ba_2 Ba_3 Ba_4 Ba_5 Bb_0 Bb_1 Bb_2 Bb_3 Bb_4 Bb_5 NBa NBb r1 r2 r3 r4
  generalize hgen : (u4.alloc (.cells #[.bool yu1, .slice Yu1 pu1 qu1, .int .i64 xu1, .bool yu2, .slice Yu2 pu2 qu2, .int .i64 xu2, .bool yu3, .slice Yu3 pu3 qu3, .int .i64 xu3, .bool yu4, .slice Yu4 pu4 qu4, .int .i64 xu4] 26)) = V5 at *
  generalize u4.heap.size = gl at *
  clear hgen
  have HM := Lib.hid (And.intro (show fmin (p4 (x1 * y1) (x1 * y2) (x2 * y1) (x2 * y2)) 3 = mlo x1 x2 y1 y2 from rfl) (show fmax (p4 (x1 * y1) (x1 * y2) (x2 * y1) (x2 * y2)) 3 = mhi x1 x2 y1 y2 from rfl))
  generalize p4 (x1 * y1) (x1 * y2) (x2 * y1) (x2 * y2) = pp at *
  have hPQ : P + P' + (Q + Q') ≤ 4800 := by omega
  generalize P + P' = P1 at *
  generalize Q + Q' = Q1 at *
  clear hp
  generalize mlo x1 x2 y1 y2 = lo_ at *
  generalize mhi x1 x2 y1 y2 = hi_ at *
  have hR1 := fmin_rg hR
  have hR2 := fmax_rg hR
  obtain ⟨bq, Aq, nq, cq, eq, Tr, dq⟩ := El 0 (by omega)
  have T0 : Box V5 gl (.bool bq) (.slice Aq nq cq) (.int .i64 eq) := ⟨Tr.c0, Tr.c1, Tr.c2⟩
  clear Tr
  have hg5 : gl < V5.heap.size := World.block_lt_of_cell? V5 _ T0.c0
  obtain ⟨t0, t1, t2⟩ := id T0
  go_wp2_with fail
  refine (rpoint_form _ _ _ _ _ _).mono ?_
  rintro _ u1 ⟨rfl, e1⟩
  clear t0 t1 t2 T0
  have hs := e1.size
  go_wp2
  go_loopw [7] (fun i wr => ∃ j q : Nat, q = j + 1 ∧ j ≤ 3 ∧ i = .int .i64 (q : Int) ∧ Ot V5 wr u1.heap.size (fmin pp j) (fmax pp j)) (fun i _ => (4 - (intOf i)).toNat)
  case atStart => exact ⟨0, 1, rfl, by omega, by go_num, ⟨⟨_, _, _, _, _, _, _, _, _, _, Bx.at (Ext.refl _) rfl, dq, dq⟩, fun j => by simp, e1.alloc _, hs⟩⟩
  case round =>
    clear hs e1
    generalize u1.heap.size = g at *
    obtain ⟨j, q, hq, hj, rfl, O⟩ := hrel
    by_cases hj4 : j < 3
    · obtain ⟨bl_, Al, nl, cl, el, bh_, Ah, nh, ch, eh, Bo, dl, dh⟩ := O.out
      obtain ⟨bq, Aq, nq, cq, eq, Tr0, dq⟩ := El q (by omega)
      have Tr := Tr0.ext O.ext
      have fz := O.fz
      have Eo := O.ext
      have hlg := O.later
      have hj1 : (q : Int) < 4 := by omega
      have ha := hR q (by omega)
      have hb := hR1 j (by omega)
      have HN := Lib.hid (And.intro (fmin_eq pp hq) (fmax_eq pp hq))
      have hc := hR2 j (by omega)
      obtain ⟨t, ht⟩ : ∃ t, cmpD (pp q) (fmin pp j) = t := ⟨_, rfl⟩
      obtain ⟨s, hs⟩ : ∃ s, cmpD (pp q) (fmax pp j) = s := ⟨_, rfl⟩
      have kt := cmp_lt (pp q) (fmin pp j)
      have ks := cmp_gt (pp q) (fmax pp j)
      rw [ht] at kt
      rw [hs] at ks
      have Ht := Lib.hid ht
      have Hs := Lib.hid hs
      have HQ := Lib.hid (And.intro hq hj4)
      clear ht hs O El hR hR1 hR2 Tr0 hq hj hj4
      obtain ⟨t0, t1, t2⟩ := id Tr
      obtain ⟨v0, v1, v2, v3, v4, v5⟩ := id Bo
      go_wp2
      refine wp_region_held_drew (S := (fun w' => (w'.cell? ⟨g, 0, none⟩ = some (.bool bl_) ∧ w'.cell? ⟨g, 1, none⟩ = some (.slice Al nl cl) ∧ w'.cell? ⟨g, 2, none⟩ = some (.int .i64 el) ∧ w'.cell? ⟨g, 3, none⟩ = some (.bool bh_) ∧ w'.cell? ⟨g, 4, none⟩ = some (.slice Ah nh ch) ∧ w'.cell? ⟨g, 5, none⟩ = some (.int .i64 eh)) ∧ (w'.cell? ⟨gl, q * 3, none⟩ = some (.bool bq) ∧ w'.cell? ⟨gl, q * 3 + 1, none⟩ = some (.slice Aq nq cq) ∧ w'.cell? ⟨gl, q * 3 + 2, none⟩ = some (.int .i64 eq)))) (by as_aux_lemma => kernel_rfl) ⟨bx6 (Bo.ext (Ext.refl wr).drew), tri3 (Tr.ext (Ext.refl wr).drew)⟩ (fun hHeld => ?_)
      refine wpAnyH_take (i := 0) (v := ?_) rfl (by as_aux_lemma => kernel_rfl) (by as_aux_lemma => kernel_rfl) (by as_aux_lemma => kernel_rfl) (fun _ _ _ h => h) (Or.inl ⟨by rfl, ?_⟩) (by assumption) ?_
      rotate_left
      · (intro w hSw; (try dsimp only at hSw); go_simp); (try with_reducible rfl)
      simp only [List.getElem_toArray, List.getElem_cons_zero, Act.put, List.setIfInBounds_toArray, List.set_cons_zero, List.set_cons_succ]
      refine wpAnyH_take (i := 1) (v := ?_) rfl (by as_aux_lemma => kernel_rfl) (by as_aux_lemma => kernel_rfl) (by as_aux_lemma => kernel_rfl) (fun _ _ _ h => h) (Or.inl ⟨by rfl, ?_⟩) (by assumption) ?_
      rotate_left
      · (intro w hSw; (try dsimp only at hSw); go_simp); (try with_reducible rfl)
      simp only [List.getElem_toArray, List.getElem_cons_zero, List.getElem_cons_succ, Act.put, List.setIfInBounds_toArray, List.set_cons_zero, List.set_cons_succ]
      refine wpAnyH_take (i := 4) (v := ?_) rfl (by as_aux_lemma => kernel_rfl) (by as_aux_lemma => kernel_rfl) (by as_aux_lemma => kernel_rfl) (fun _ _ _ h => h) (Or.inl ⟨by rfl, ?_⟩) (by assumption) ?_
      rotate_left
      · (intro w hSw; (try dsimp only at hSw); go_simp); (try with_reducible rfl)
      simp only [List.getElem_toArray, List.getElem_cons_zero, List.getElem_cons_succ, Act.put, List.setIfInBounds_toArray, List.set_cons_zero, List.set_cons_succ]
      refine wpAnyH_take (i := 2) (v := ?_) rfl (by as_aux_lemma => kernel_rfl) (by as_aux_lemma => kernel_rfl) (by as_aux_lemma => kernel_rfl) (fun _ _ _ h => h) (Or.inl ⟨by rfl, ?_⟩) (by assumption) ?_
      rotate_left
      · (intro w hSw; (try dsimp only at hSw); go_simp); (try with_reducible rfl)
      simp only [List.getElem_toArray, List.getElem_cons_zero, List.getElem_cons_succ, Act.put, List.setIfInBounds_toArray, List.set_cons_zero, List.set_cons_succ]
      refine wpAnyH_take (i := 5) (v := ?_) rfl (by as_aux_lemma => kernel_rfl) (by as_aux_lemma => kernel_rfl) (by as_aux_lemma => kernel_rfl) (fun _ _ _ h => h) (Or.inl ⟨by rfl, ?_⟩) (by assumption) ?_
      rotate_left
      · (intro w hSw; (try dsimp only at hSw); go_simp); (try with_reducible rfl)
      simp only [List.getElem_toArray, List.getElem_cons_zero, List.getElem_cons_succ, Act.put, List.setIfInBounds_toArray, List.set_cons_zero, List.set_cons_succ]
      refine wpAnyH_take (i := 3) (v := ?_) rfl (by as_aux_lemma => kernel_rfl) (by as_aux_lemma => kernel_rfl) (by as_aux_lemma => kernel_rfl) (fun _ _ _ h => h) (Or.inl ⟨by rfl, ?_⟩) (by assumption) ?_
      rotate_left
      · (intro w hSw; (try dsimp only at hSw); go_simp); (try with_reducible rfl)
      simp only [List.getElem_toArray, List.getElem_cons_zero, List.getElem_cons_succ, Act.put, List.setIfInBounds_toArray, List.set_cons_zero, List.set_cons_succ]
      refine wpAnyH_ready (rs := [6]) (by as_aux_lemma => kernel_rfl) (by simp) ?_
      refine AllReadyH.cons rfl (fun K hK => ?_) AllReadyH.nil
      go_simp
      refine (rcmpz_lit _ _ _ (pp q) (fmin pp j) P1 Q1 t Ht.out (dq.ext (Eo.trans (Ext.refl wr).drew)) (dl.ext (Eo.trans (Ext.refl wr).drew)) ha hb hPQ).mono ?_
      rintro _ ux1 ⟨rfl, eux1⟩
      have Fx1 : Ext wr ux1 := (Ext.refl wr).drew.trans eux1
      refine hK.out _ _ ⟨bx6 (Bo.ext Fx1), tri3 (Tr.ext Fx1)⟩ (fun hHeld => ?_)
      clear hK K eux1
      refine wpAnyH_take (i := 7) (v := ?_) rfl (by as_aux_lemma => kernel_rfl) (by as_aux_lemma => kernel_rfl) (by as_aux_lemma => kernel_rfl) (fun _ _ _ h => h) (Or.inl ⟨by rfl, ?_⟩) (by assumption) ?_
      rotate_left
      · (intro w hSw; (try dsimp only at hSw); go_simp); (try with_reducible rfl)
      simp only [List.getElem_toArray, List.getElem_cons_zero, List.getElem_cons_succ, Act.put, List.setIfInBounds_toArray, List.set_cons_zero, List.set_cons_succ]
      refine wpAnyH_done (by as_aux_lemma => kernel_rfl) ?_ _
      clear t0 t1 t2 v0 v1 v2 v3 v4 v5
      have hcell : g < wr.heap.size := World.block_lt_of_cell? _ _ Bo.c0
      replace fz : ∀ i, ux1.frozen? ⟨g, i, none⟩ = false := fun i => (Fx1.frozen (p := ⟨g, i, none⟩) hcell).trans (fz i)
      replace Bo := Bo.ext Fx1
      replace Tr := Tr.ext Fx1
      replace Eo := Eo.trans Fx1
      clear Fx1 hHeld hcell
      obtain ⟨t0, t1, t2⟩ := id Tr
      obtain ⟨v0, v1, v2, v3, v4, v5⟩ := id Bo
      have f0 := fz 0
      have f1 := fz 1
      have f2 := fz 2
      by_cases q1 : pp q < fmin pp j
      · have d1 : t < 0 := kt.2 q1
        go_upto_region 8 with fail
        have O := Ot.low (w' := ux1) (L := pp 0) Eo hlg fz Bo dh dq
        have hne : gl ≠ g := by omega
        replace Tr := tri_keep (a := .bool bq) (b := .slice Aq nq cq) (c := .int .i64 eq) Tr hne
        clear t0 t1 t2 v0 v1 v2 v3 v4 v5 f0 f1 f2 fz Eo
        replace Bo := set3_lo (x := .bool bq) (y := .slice Aq nq cq) (z := .int .i64 eq) Bo
        have fz := O.fz
        have Eo := O.ext
        clear O
        generalize (((ux1.setCell ⟨g, 0, none⟩ (.bool bq)).setCell ⟨g, 1, none⟩ (.slice Aq nq cq)).setCell ⟨g, 2, none⟩ (.int .i64 eq)) = V7 at *
        have hcell : g < V7.heap.size := World.block_lt_of_cell? _ _ Bo.c0
        obtain ⟨t0, t1, t2⟩ := id Tr
        obtain ⟨v0, v1, v2, v3, v4, v5⟩ := id Bo
        go_upto_region 8 with fail
        refine wp_region_held_drew (S := (fun w' => (w'.cell? ⟨g, 0, none⟩ = some (.bool bq) ∧ w'.cell? ⟨g, 1, none⟩ = some (.slice Aq nq cq) ∧ w'.cell? ⟨g, 2, none⟩ = some (.int .i64 eq) ∧ w'.cell? ⟨g, 3, none⟩ = some (.bool bh_) ∧ w'.cell? ⟨g, 4, none⟩ = some (.slice Ah nh ch) ∧ w'.cell? ⟨g, 5, none⟩ = some (.int .i64 eh)) ∧ (w'.cell? ⟨gl, q * 3, none⟩ = some (.bool bq) ∧ w'.cell? ⟨gl, q * 3 + 1, none⟩ = some (.slice Aq nq cq) ∧ w'.cell? ⟨gl, q * 3 + 2, none⟩ = some (.int .i64 eq)))) (by as_aux_lemma => kernel_rfl) ⟨bx6 (Bo.ext (Ext.refl V7).drew), tri3 (Tr.ext (Ext.refl V7).drew)⟩ (fun hHeld => ?_)
        refine wpAnyH_take (i := 0) (v := ?_) rfl (by as_aux_lemma => kernel_rfl) (by as_aux_lemma => kernel_rfl) (by as_aux_lemma => kernel_rfl) (fun _ _ _ h => h) (Or.inl ⟨by rfl, ?_⟩) (by assumption) ?_
        rotate_left
        · (intro w hSw; (try dsimp only at hSw); go_simp); (try with_reducible rfl)
        simp only [List.getElem_toArray, List.getElem_cons_zero, Act.put, List.setIfInBounds_toArray, List.set_cons_zero, List.set_cons_succ]
        refine wpAnyH_take (i := 1) (v := ?_) rfl (by as_aux_lemma => kernel_rfl) (by as_aux_lemma => kernel_rfl) (by as_aux_lemma => kernel_rfl) (fun _ _ _ h => h) (Or.inl ⟨by rfl, ?_⟩) (by assumption) ?_
        rotate_left
        · (intro w hSw; (try dsimp only at hSw); go_simp); (try with_reducible rfl)
        simp only [List.getElem_toArray, List.getElem_cons_zero, List.getElem_cons_succ, Act.put, List.setIfInBounds_toArray, List.set_cons_zero, List.set_cons_succ]
        refine wpAnyH_take (i := 4) (v := ?_) rfl (by as_aux_lemma => kernel_rfl) (by as_aux_lemma => kernel_rfl) (by as_aux_lemma => kernel_rfl) (fun _ _ _ h => h) (Or.inl ⟨by rfl, ?_⟩) (by assumption) ?_
        rotate_left
        · (intro w hSw; (try dsimp only at hSw); go_simp); (try with_reducible rfl)
        simp only [List.getElem_toArray, List.getElem_cons_zero, List.getElem_cons_succ, Act.put, List.setIfInBounds_toArray, List.set_cons_zero, List.set_cons_succ]
        refine wpAnyH_take (i := 2) (v := ?_) rfl (by as_aux_lemma => kernel_rfl) (by as_aux_lemma => kernel_rfl) (by as_aux_lemma => kernel_rfl) (fun _ _ _ h => h) (Or.inl ⟨by rfl, ?_⟩) (by assumption) ?_
        rotate_left
        · (intro w hSw; (try dsimp only at hSw); go_simp); (try with_reducible rfl)
        simp only [List.getElem_toArray, List.getElem_cons_zero, List.getElem_cons_succ, Act.put, List.setIfInBounds_toArray, List.set_cons_zero, List.set_cons_succ]
        refine wpAnyH_take (i := 5) (v := ?_) rfl (by as_aux_lemma => kernel_rfl) (by as_aux_lemma => kernel_rfl) (by as_aux_lemma => kernel_rfl) (fun _ _ _ h => h) (Or.inl ⟨by rfl, ?_⟩) (by assumption) ?_
        rotate_left
        · (intro w hSw; (try dsimp only at hSw); go_simp); (try with_reducible rfl)
        simp only [List.getElem_toArray, List.getElem_cons_zero, List.getElem_cons_succ, Act.put, List.setIfInBounds_toArray, List.set_cons_zero, List.set_cons_succ]
        refine wpAnyH_take (i := 3) (v := ?_) rfl (by as_aux_lemma => kernel_rfl) (by as_aux_lemma => kernel_rfl) (by as_aux_lemma => kernel_rfl) (fun _ _ _ h => h) (Or.inl ⟨by rfl, ?_⟩) (by assumption) ?_
        rotate_left
        · (intro w hSw; (try dsimp only at hSw); go_simp); (try with_reducible rfl)
        simp only [List.getElem_toArray, List.getElem_cons_zero, List.getElem_cons_succ, Act.put, List.setIfInBounds_toArray, List.set_cons_zero, List.set_cons_succ]
        refine wpAnyH_ready (rs := [6]) (by as_aux_lemma => kernel_rfl) (by simp) ?_
        refine AllReadyH.cons rfl (fun K hK => ?_) AllReadyH.nil
        go_simp
        refine (rcmpz_lit _ _ _ (pp q) (fmax pp j) P1 Q1 s Hs.out (dq.ext (Eo.trans (Ext.refl V7).drew)) (dh.ext (Eo.trans (Ext.refl V7).drew)) ha hc hPQ).mono ?_
        rintro _ uy1 ⟨rfl, euy1⟩
        have Fy1 : Ext V7 uy1 := (Ext.refl V7).drew.trans euy1
        refine hK.out _ _ ⟨bx6 (Bo.ext Fy1), tri3 (Tr.ext Fy1)⟩ (fun hHeld => ?_)
        clear hK K euy1
        refine wpAnyH_take (i := 7) (v := ?_) rfl (by as_aux_lemma => kernel_rfl) (by as_aux_lemma => kernel_rfl) (by as_aux_lemma => kernel_rfl) (fun _ _ _ h => h) (Or.inl ⟨by rfl, ?_⟩) (by assumption) ?_
        rotate_left
        · (intro w hSw; (try dsimp only at hSw); go_simp); (try with_reducible rfl)
        simp only [List.getElem_toArray, List.getElem_cons_zero, List.getElem_cons_succ, Act.put, List.setIfInBounds_toArray, List.set_cons_zero, List.set_cons_succ]
        refine wpAnyH_done (by as_aux_lemma => kernel_rfl) ?_ _
        clear t0 t1 t2 v0 v1 v2 v3 v4 v5
        replace Bo := Bo.ext Fy1
        replace Tr := Tr.ext Fy1
        replace fz : ∀ i, uy1.frozen? ⟨g, i, none⟩ = false := fun i => (Fy1.frozen (p := ⟨g, i, none⟩) hcell).trans (fz i)
        replace Eo := Eo.trans Fy1
        clear Fy1 hHeld hcell
        obtain ⟨t0, t1, t2⟩ := id Tr
        obtain ⟨v0, v1, v2, v3, v4, v5⟩ := id Bo
        have f0 := fz 0
        have f1 := fz 1
        have f2 := fz 2
        have f3 := fz 3
        have f4 := fz 4
        have f5 := fz 5
        by_cases q2 : fmax pp j < pp q
        · have d2 : 0 < s := ks.2 q2
          go_wp2
          go_roundw
          case rel => exact ⟨j + 1, q + 1, by have := HQ.out.1; omega, by have := HQ.out.2; omega, by go_num, by rw [HN.out.1.1 q1, HN.out.2.1 q2]; exact Ot.high (w' := uy1) (H := pp 0) Eo hlg fz Bo dq dq⟩
          case measure => simp [intOf]; omega
        · have d2 : ¬ 0 < s := fun h => q2 (ks.1 h)
          go_wp2
          go_roundw
          case rel => exact ⟨j + 1, q + 1, by have := HQ.out.1; omega, by have := HQ.out.2; omega, by go_num, by rw [HN.out.1.1 q1, HN.out.2.2 q2]; exact ⟨⟨_, _, _, _, _, _, _, _, _, _, Bo, dq, dh⟩, fz, Eo, hlg⟩⟩
          case measure => simp [intOf]; omega
      · have d1 : ¬ t < 0 := fun h => q1 (kt.1 h)
        clear f0 f1 f2 t0 t1 t2 v0 v1 v2 v3 v4 v5
        have hcell : g < ux1.heap.size := World.block_lt_of_cell? _ _ Bo.c0
        obtain ⟨t0, t1, t2⟩ := id Tr
        obtain ⟨v0, v1, v2, v3, v4, v5⟩ := id Bo
        go_upto_region 8 with fail
        refine wp_region_held_drew (S := (fun w' => (w'.cell? ⟨g, 0, none⟩ = some (.bool bl_) ∧ w'.cell? ⟨g, 1, none⟩ = some (.slice Al nl cl) ∧ w'.cell? ⟨g, 2, none⟩ = some (.int .i64 el) ∧ w'.cell? ⟨g, 3, none⟩ = some (.bool bh_) ∧ w'.cell? ⟨g, 4, none⟩ = some (.slice Ah nh ch) ∧ w'.cell? ⟨g, 5, none⟩ = some (.int .i64 eh)) ∧ (w'.cell? ⟨gl, q * 3, none⟩ = some (.bool bq) ∧ w'.cell? ⟨gl, q * 3 + 1, none⟩ = some (.slice Aq nq cq) ∧ w'.cell? ⟨gl, q * 3 + 2, none⟩ = some (.int .i64 eq)))) (by as_aux_lemma => kernel_rfl) ⟨bx6 (Bo.ext (Ext.refl ux1).drew), tri3 (Tr.ext (Ext.refl ux1).drew)⟩ (fun hHeld => ?_)
        refine wpAnyH_take (i := 0) (v := ?_) rfl (by as_aux_lemma => kernel_rfl) (by as_aux_lemma => kernel_rfl) (by as_aux_lemma => kernel_rfl) (fun _ _ _ h => h) (Or.inl ⟨by rfl, ?_⟩) (by assumption) ?_
        rotate_left
        · (intro w hSw; (try dsimp only at hSw); go_simp); (try with_reducible rfl)
        simp only [List.getElem_toArray, List.getElem_cons_zero, Act.put, List.setIfInBounds_toArray, List.set_cons_zero, List.set_cons_succ]
        refine wpAnyH_take (i := 1) (v := ?_) rfl (by as_aux_lemma => kernel_rfl) (by as_aux_lemma => kernel_rfl) (by as_aux_lemma => kernel_rfl) (fun _ _ _ h => h) (Or.inl ⟨by rfl, ?_⟩) (by assumption) ?_
        rotate_left
        · (intro w hSw; (try dsimp only at hSw); go_simp); (try with_reducible rfl)
        simp only [List.getElem_toArray, List.getElem_cons_zero, List.getElem_cons_succ, Act.put, List.setIfInBounds_toArray, List.set_cons_zero, List.set_cons_succ]
        refine wpAnyH_take (i := 4) (v := ?_) rfl (by as_aux_lemma => kernel_rfl) (by as_aux_lemma => kernel_rfl) (by as_aux_lemma => kernel_rfl) (fun _ _ _ h => h) (Or.inl ⟨by rfl, ?_⟩) (by assumption) ?_
        rotate_left
        · (intro w hSw; (try dsimp only at hSw); go_simp); (try with_reducible rfl)
        simp only [List.getElem_toArray, List.getElem_cons_zero, List.getElem_cons_succ, Act.put, List.setIfInBounds_toArray, List.set_cons_zero, List.set_cons_succ]
        refine wpAnyH_take (i := 2) (v := ?_) rfl (by as_aux_lemma => kernel_rfl) (by as_aux_lemma => kernel_rfl) (by as_aux_lemma => kernel_rfl) (fun _ _ _ h => h) (Or.inl ⟨by rfl, ?_⟩) (by assumption) ?_
        rotate_left
        · (intro w hSw; (try dsimp only at hSw); go_simp); (try with_reducible rfl)
        simp only [List.getElem_toArray, List.getElem_cons_zero, List.getElem_cons_succ, Act.put, List.setIfInBounds_toArray, List.set_cons_zero, List.set_cons_succ]
        refine wpAnyH_take (i := 5) (v := ?_) rfl (by as_aux_lemma => kernel_rfl) (by as_aux_lemma => kernel_rfl) (by as_aux_lemma => kernel_rfl) (fun _ _ _ h => h) (Or.inl ⟨by rfl, ?_⟩) (by assumption) ?_
        rotate_left
        · (intro w hSw; (try dsimp only at hSw); go_simp); (try with_reducible rfl)
        simp only [List.getElem_toArray, List.getElem_cons_zero, List.getElem_cons_succ, Act.put, List.setIfInBounds_toArray, List.set_cons_zero, List.set_cons_succ]
        refine wpAnyH_take (i := 3) (v := ?_) rfl (by as_aux_lemma => kernel_rfl) (by as_aux_lemma => kernel_rfl) (by as_aux_lemma => kernel_rfl) (fun _ _ _ h => h) (Or.inl ⟨by rfl, ?_⟩) (by assumption) ?_
        rotate_left
        · (intro w hSw; (try dsimp only at hSw); go_simp); (try with_reducible rfl)
        simp only [List.getElem_toArray, List.getElem_cons_zero, List.getElem_cons_succ, Act.put, List.setIfInBounds_toArray, List.set_cons_zero, List.set_cons_succ]
        refine wpAnyH_ready (rs := [6]) (by as_aux_lemma => kernel_rfl) (by simp) ?_
        refine AllReadyH.cons rfl (fun K hK => ?_) AllReadyH.nil
        go_simp
        refine (rcmpz_lit _ _ _ (pp q) (fmax pp j) P1 Q1 s Hs.out (dq.ext (Eo.trans (Ext.refl ux1).drew)) (dh.ext (Eo.trans (Ext.refl ux1).drew)) ha hc hPQ).mono ?_
        rintro _ uy1 ⟨rfl, euy1⟩
        have Fy1 : Ext ux1 uy1 := (Ext.refl ux1).drew.trans euy1
        refine hK.out _ _ ⟨bx6 (Bo.ext Fy1), tri3 (Tr.ext Fy1)⟩ (fun hHeld => ?_)
        clear hK K euy1
        refine wpAnyH_take (i := 7) (v := ?_) rfl (by as_aux_lemma => kernel_rfl) (by as_aux_lemma => kernel_rfl) (by as_aux_lemma => kernel_rfl) (fun _ _ _ h => h) (Or.inl ⟨by rfl, ?_⟩) (by assumption) ?_
        rotate_left
        · (intro w hSw; (try dsimp only at hSw); go_simp); (try with_reducible rfl)
        simp only [List.getElem_toArray, List.getElem_cons_zero, List.getElem_cons_succ, Act.put, List.setIfInBounds_toArray, List.set_cons_zero, List.set_cons_succ]
        refine wpAnyH_done (by as_aux_lemma => kernel_rfl) ?_ _
        clear t0 t1 t2 v0 v1 v2 v3 v4 v5
        replace Bo := Bo.ext Fy1
        replace Tr := Tr.ext Fy1
        replace fz : ∀ i, uy1.frozen? ⟨g, i, none⟩ = false := fun i => (Fy1.frozen (p := ⟨g, i, none⟩) hcell).trans (fz i)
        replace Eo := Eo.trans Fy1
        clear Fy1 hHeld hcell
        obtain ⟨t0, t1, t2⟩ := id Tr
        obtain ⟨v0, v1, v2, v3, v4, v5⟩ := id Bo
        have f0 := fz 0
        have f1 := fz 1
        have f2 := fz 2
        have f3 := fz 3
        have f4 := fz 4
        have f5 := fz 5
        by_cases q2 : fmax pp j < pp q
        · have d2 : 0 < s := ks.2 q2
          go_wp2
          go_roundw
          case rel => exact ⟨j + 1, q + 1, by have := HQ.out.1; omega, by have := HQ.out.2; omega, by go_num, by rw [HN.out.1.2 q1, HN.out.2.1 q2]; exact Ot.high (w' := uy1) (H := pp 0) Eo hlg fz Bo dl dq⟩
          case measure => simp [intOf]; omega
        · have d2 : ¬ 0 < s := fun h => q2 (ks.1 h)
          go_wp2
          go_roundw
          case rel => exact ⟨j + 1, q + 1, by have := HQ.out.1; omega, by have := HQ.out.2; omega, by go_num, by rw [HN.out.1.2 q1, HN.out.2.2 q2]; exact ⟨⟨_, _, _, _, _, _, _, _, _, _, Bo, dl, dh⟩, fz, Eo, hlg⟩⟩
          case measure => simp [intOf]; omega
    · obtain rfl : j = 3 := by omega
      obtain rfl : q = 4 := by omega
      rw [HM.out.1, HM.out.2] at O
      obtain ⟨bl_, Al, nl, cl, el, bh_, Ah, nh, ch, eh, Bo, dl, dh⟩ := O.out
      have Eo := O.ext
      replace Z1 := Z1.ext Eo
      replace dl := dl.ext Eo
      replace dh := dh.ext Eo
      replace E5 := E5.trans Eo
      obtain ⟨v0, v1, v2, v3, v4, v5⟩ := id Bo
      have g0 := Z1.c0
      have g1 := Z1.c1
      have g2 := Z1.c2
      have g3 := Z1.c3
      have g4 := Z1.c4
      have g5 := Z1.c5
      have f0 := Z1.f 0
      have f1 := Z1.f 1
      have f2 := Z1.f 2
      have f3 := Z1.f 3
      have f4 := Z1.f 4
      have f5 := Z1.f 5
      go_wp2
      obtain ⟨k0, k1, k2, k3, k4, k5, hD⟩ := Z1.done dl dh E5 (by omega)
      exact bodyPost_ret (by simp [results, Tryz.results31, go_sem, k0, k1, k2, k3, k4, k5]) rfl hD

end Go.Proofs.YtomdbmjfehoodaaGreatDoor
