/- What the laws on enclosures share. -/
import Derived.Test.YtimdglgianheiaaGreatDoorPD
namespace Go.Proofs.YtimdglgianheiaaGreatDoor
open Go.RowKit
theorem manyI1 (w : World) (t : TypeId) (na : Bool) (va : Value) (xa : List Int) (ea : Int) (ra : Row w va xa) (ba : -9223372036854775808 ≤ ea ∧ ea ≤ 9223372036854775807) (na' : Bool) (va' : Value) (xa' : List Int) (ea' : Int) (ra' : Row w va' xa') (ba' : -9223372036854775808 ≤ ea' ∧ ea' ≤ 9223372036854775807) :
    ManyI (w.alloc (.cells #[.bool na, va, .int .i64 ea, .bool na', va', .int .i64 ea'] t)) w.heap.size 1 (pk na na na) (pk va va va) (pk xa xa xa) (pk ea ea ea) (pk na' na' na') (pk va' va' va') (pk xa' xa' xa') (pk ea' ea' ea') := by
  have E : Ext w (w.alloc (.cells #[.bool na, va, .int .i64 ea, .bool na', va', .int .i64 ea'] t)) := (Ext.refl w).alloc _
  refine ⟨fun j hj => ?_, fun j hj => ?_, fun j hj => ?_, fun j hj => ?_, fun j hj => ?_, fun j hj => ?_, fun j hj => ?_, fun j hj => ?_, fun j hj => ?_, fun j hj => ?_⟩
  all_goals
    obtain rfl : j = 0 := by omega
    all_goals first
    | (rw [World.cell?_alloc_new]; rfl)
    | exact ra.ext E
    | exact ba
    | exact ra'.ext E
    | exact ba'
theorem manyI2 (w : World) (t : TypeId) (na nb : Bool) (va vb : Value) (xa xb : List Int) (ea eb : Int) (ra : Row w va xa) (rb : Row w vb xb) (ba : -9223372036854775808 ≤ ea ∧ ea ≤ 9223372036854775807) (bb : -9223372036854775808 ≤ eb ∧ eb ≤ 9223372036854775807) (na' nb' : Bool) (va' vb' : Value) (xa' xb' : List Int) (ea' eb' : Int) (ra' : Row w va' xa') (rb' : Row w vb' xb') (ba' : -9223372036854775808 ≤ ea' ∧ ea' ≤ 9223372036854775807) (bb' : -9223372036854775808 ≤ eb' ∧ eb' ≤ 9223372036854775807) :
    ManyI (w.alloc (.cells #[.bool na, va, .int .i64 ea, .bool na', va', .int .i64 ea', .bool nb, vb, .int .i64 eb, .bool nb', vb', .int .i64 eb'] t)) w.heap.size 2 (pk na nb nb) (pk va vb vb) (pk xa xb xb) (pk ea eb eb) (pk na' nb' nb') (pk va' vb' vb') (pk xa' xb' xb') (pk ea' eb' eb') := by
  have E : Ext w (w.alloc (.cells #[.bool na, va, .int .i64 ea, .bool na', va', .int .i64 ea', .bool nb, vb, .int .i64 eb, .bool nb', vb', .int .i64 eb'] t)) := (Ext.refl w).alloc _
  refine ⟨fun j hj => ?_, fun j hj => ?_, fun j hj => ?_, fun j hj => ?_, fun j hj => ?_, fun j hj => ?_, fun j hj => ?_, fun j hj => ?_, fun j hj => ?_, fun j hj => ?_⟩
  all_goals
    obtain rfl | rfl : j = 0 ∨ j = 1 := by omega
    all_goals first
    | (rw [World.cell?_alloc_new]; rfl)
    | exact ra.ext E
    | exact ba
    | exact ra'.ext E
    | exact ba'
    | exact rb.ext E
    | exact bb
    | exact rb'.ext E
    | exact bb'
theorem manyI3 (w : World) (t : TypeId) (na nb nc : Bool) (va vb vc : Value) (xa xb xc : List Int) (ea eb ec : Int) (ra : Row w va xa) (rb : Row w vb xb) (rc : Row w vc xc) (ba : -9223372036854775808 ≤ ea ∧ ea ≤ 9223372036854775807) (bb : -9223372036854775808 ≤ eb ∧ eb ≤ 9223372036854775807) (bc : -9223372036854775808 ≤ ec ∧ ec ≤ 9223372036854775807) (na' nb' nc' : Bool) (va' vb' vc' : Value) (xa' xb' xc' : List Int) (ea' eb' ec' : Int) (ra' : Row w va' xa') (rb' : Row w vb' xb') (rc' : Row w vc' xc') (ba' : -9223372036854775808 ≤ ea' ∧ ea' ≤ 9223372036854775807) (bb' : -9223372036854775808 ≤ eb' ∧ eb' ≤ 9223372036854775807) (bc' : -9223372036854775808 ≤ ec' ∧ ec' ≤ 9223372036854775807) :
    ManyI (w.alloc (.cells #[.bool na, va, .int .i64 ea, .bool na', va', .int .i64 ea', .bool nb, vb, .int .i64 eb, .bool nb', vb', .int .i64 eb', .bool nc, vc, .int .i64 ec, .bool nc', vc', .int .i64 ec'] t)) w.heap.size 3 (pk na nb nc) (pk va vb vc) (pk xa xb xc) (pk ea eb ec) (pk na' nb' nc') (pk va' vb' vc') (pk xa' xb' xc') (pk ea' eb' ec') := by
  have E : Ext w (w.alloc (.cells #[.bool na, va, .int .i64 ea, .bool na', va', .int .i64 ea', .bool nb, vb, .int .i64 eb, .bool nb', vb', .int .i64 eb', .bool nc, vc, .int .i64 ec, .bool nc', vc', .int .i64 ec'] t)) := (Ext.refl w).alloc _
  refine ⟨fun j hj => ?_, fun j hj => ?_, fun j hj => ?_, fun j hj => ?_, fun j hj => ?_, fun j hj => ?_, fun j hj => ?_, fun j hj => ?_, fun j hj => ?_, fun j hj => ?_⟩
  all_goals
    obtain rfl | rfl | rfl : j = 0 ∨ j = 1 ∨ j = 2 := by omega
    all_goals first
    | (rw [World.cell?_alloc_new]; rfl)
    | exact ra.ext E
    | exact ba
    | exact ra'.ext E
    | exact ba'
    | exact rb.ext E
    | exact bb
    | exact rb'.ext E
    | exact bb'
    | exact rc.ext E
    | exact bc
    | exact rc'.ext E
    | exact bc'
def goodIs (k : Nat) (nb : Nat → Bool) (xs : Nat → List Int) (e : Nat → Int) (nb' : Nat → Bool) (xs' : Nat → List Int) (e' : Nat → Int) : Bool := decide (∀ j, j < k → goodI (nb j) (xs j) (e j) (nb' j) (xs' j) (e' j) = true)
theorem goodIs_true {k : Nat} {nb : Nat → Bool} {xs : Nat → List Int} {e : Nat → Int} {nb' : Nat → Bool} {xs' : Nat → List Int} {e' : Nat → Int} (h : goodIs k nb xs e nb' xs' e' = true) : ∀ j, j < k → goodI (nb j) (xs j) (e j) (nb' j) (xs' j) (e' j) = true := of_decide_eq_true h
theorem good5_any (w : World) (g k cap : Nat) (nb : Nat → Bool) (v : Nat → Value) (xs : Nat → List Int) (e : Nat → Int) (nb' : Nat → Bool) (v' : Nat → Value) (xs' : Nat → List Int) (e' : Nat → Int) (hk : k ≤ 1000) (h : ManyI w g k nb v xs e nb' v' xs' e') :
    Calls Tryz.prog 7 #[.slice (some ⟨g, 0, none⟩) k cap] w (RetE w (.bool (goodIs k nb xs e nb' xs' e'))) :=
  good5_main w g k cap nb v xs e nb' v' xs' e' hk h _ (fun j hj hf => decide_eq_false (fun ha => by rw [ha j hj] at hf; cases hf)) (fun ht => decide_eq_true ht)
/-- What Good gives of an enclosure. -/
theorem good_ivl {w : World} {nb nb' : Bool} {v v' : Value} {xs xs' : List Int} {e e' : Int} (r : Row w v xs) (r' : Row w v' xs') (hg : goodI nb xs e nb' xs' e' = true) :
    ∃ l h : Dyadic, In w (.agg #[.bool nb, v, .int .i64 e, .bool nb', v', .int .i64 e']) l h ∧ l ≤ h ∧ Rg 200 392 l ∧ Rg 200 392 h := by
  unfold goodI at hg
  rw [Bool.and_eq_true, Bool.and_eq_true, decide_eq_true_eq] at hg
  obtain ⟨h1, h2, h3⟩ := hg
  obtain ⟨z1, m1, _, _, _, _, r1⟩ := good_num r h1
  obtain ⟨z2, m2, _, _, _, _, r2⟩ := good_num r' h2
  rw [← m1.num r, ← m2.num r'] at h3
  exact ⟨_, _, In.mk m1 m2, h3, r1, r2⟩
theorem pk6_all {f : Bool → List Int → Int → Bool → List Int → Int → Bool} {a b c : Bool} {a1 b1 c1 : List Int} {a2 b2 c2 : Int} {a3 b3 c3 : Bool} {a4 b4 c4 : List Int} {a5 b5 c5 : Int} {k : Nat}
    (h : ∀ j, j < k → f (pk a b c j) (pk a1 b1 c1 j) (pk a2 b2 c2 j) (pk a3 b3 c3 j) (pk a4 b4 c4 j) (pk a5 b5 c5 j) = true) :
    (0 < k → f a a1 a2 a3 a4 a5 = true) ∧ (1 < k → f b b1 b2 b3 b4 b5 = true) ∧ (2 < k → f c c1 c2 c3 c4 c5 = true) := ⟨fun hk => h 0 hk, fun hk => h 1 hk, fun hk => h 2 hk⟩
theorem mlo_point (x y : Dyadic) : mlo x x y y = x * y := by unfold mlo min4 dmin; simp
theorem mhi_point (x y : Dyadic) : mhi x x y y = x * y := by unfold mhi max4 dmax; simp
theorem has_point (x y : Dyadic) : hasB x x y = decide (x = y) := by
  unfold hasB
  by_cases h : x = y
  · subst h; simp [Std.le_refl]
  · rw [decide_eq_false h]
    by_cases h1 : x ≤ y
    · rw [decide_eq_true h1, Bool.true_and]; apply decide_eq_false; intro h2; apply h; grind
    · rw [decide_eq_false h1, Bool.false_and]
theorem cmp_self0 (x : Dyadic) : cmpD (x + -x) 0 = 0 := by rw [show x + -x = 0 by grind]; rfl
theorem radd_lit (w : World) (va vb : Value) (x y d : Dyadic) (P Q : Nat) (hd : x + y = d) (ha : Dn w va x) (hb : Dn w vb y) (hx : Rg P Q x) (hy : Rg P Q y) (h1 : P + Q ≤ 14400) : Calls Tryz.prog 44 #[va, vb] w (RetD w d) := by
  subst hd; exact raddD_any w va vb x y P Q ha hb hx hy h1
theorem rsign_lit (w : World) (v : Value) (d : Dyadic) (r : Int) (h : cmpD d 0 = r) (hd : Dn w v d) : Calls Tryz.prog 38 #[v] w (RetE w (.int .i64 r)) := by
  subst h; exact rsign_any w v d hd
theorem rsame_lit (w : World) (va vb : Value) (x y : Dyadic) (r : Bool) (h : decide (x = y) = r) (ha : Dn w va x) (hb : Dn w vb y) : Calls Tryz.prog 18 #[va, vb] w (RetE w (.bool r)) := by
  subst h; exact rsameD_any w va vb x y ha hb
theorem inside_t {l h l' h' : Dyadic} (h1 : l' ≤ l) (h2 : l ≤ h) (h3 : h ≤ h') : (hasB l' h' l && hasB l' h' h) = true := by
  unfold hasB
  rw [decide_eq_true h1, decide_eq_true h3, decide_eq_true (show l ≤ h' by grind), decide_eq_true (show l' ≤ h by grind)]; rfl
theorem inside_f {l h l' h' : Dyadic} (k : (hasB l' h' l && hasB l' h' h) = true) : l' ≤ l ∧ h ≤ h' := by
  unfold hasB at k
  rw [Bool.and_eq_true, Bool.and_eq_true, Bool.and_eq_true, decide_eq_true_eq, decide_eq_true_eq, decide_eq_true_eq, decide_eq_true_eq] at k
  exact ⟨k.1.1, k.2.2⟩
theorem rg_min4 {P Q : Nat} {a b c d : Dyadic} (h1 : Rg P Q a) (h2 : Rg P Q b) (h3 : Rg P Q c) (h4 : Rg P Q d) : Rg P Q (min4 a b c d) ∧ Rg P Q (max4 a b c d) :=
  ⟨rg_dmin (rg_dmin (rg_dmin h1 h2) h3) h4, rg_dmax (rg_dmax (rg_dmax h1 h2) h3) h4⟩
theorem rg_mul4 {P Q P' Q' : Nat} {a b c d : Dyadic} (h1 : Rg P Q a) (h2 : Rg P Q b) (h3 : Rg P' Q' c) (h4 : Rg P' Q' d) : Rg (P + P') (Q + Q') (mlo a b c d) ∧ Rg (P + P') (Q + Q') (mhi a b c d) :=
  rg_min4 (h1.mul h3) (h1.mul h4) (h2.mul h3) (h2.mul h4)
theorem root_rg {x : Dyadic} {k : Nat} (h0 : 0 ≤ x) (r : Rg 200 392 x) (hk : 1 ≤ k) (hk2 : k ≤ 60) : Rlo k x (rlo k x) ∧ Rhi k x (rhi k x) ∧ Rg 260 1046 (rlo k x) ∧ Rg 260 1046 (rhi k x) := by
  obtain ⟨a, b, c, d⟩ := root_there x k 200 392 h0 r hk
  exact ⟨a, b, c.mono (by omega) (by omega), d.mono (by omega) (by omega)⟩
theorem riright_lit (w : World) (va : Value) (l h : Dyadic) (P Q : Nat) (r : Bool) (hr : decide (l ≤ h) = r) (ha : In w va l h) (r1 : Rg P Q l) (r2 : Rg P Q h) (hp : P + Q ≤ 1440) : Calls Tryz.prog 6 #[va] w (RetE w (.bool r)) := by
  subst hr; exact riright_any w va l h P Q ha r1 r2 hp
theorem rg_zero (P Q : Nat) : Rg P Q 0 := ⟨0, (dy_zero _).symm, by have := pow2_pos (P + Q); omega, pow2_pos _⟩
end Go.Proofs.YtimdglgianheiaaGreatDoor
