/- The walk of IvlEnds. -/
import Derived.Test.YtimdglgianheiaaDoorPE
namespace Go.Proofs.YtimdglgianheiaaDoor
open Go.RowKit
set_option linter.unusedVariables false
/-- The three cells of an element. -/
structure Tri (w : World) (g o : Nat) (x y z : Value) : Prop where
  c0 : w.cell? ⟨g, o, none⟩ = some x
  c1 : w.cell? ⟨g, o + 1, none⟩ = some y
  c2 : w.cell? ⟨g, o + 2, none⟩ = some z
theorem Tri.ext {w w' : World} {g o : Nat} {x y z : Value} (h : Tri w g o x y z) (E : Ext w w') : Tri w' g o x y z := by
  have hg : g < w.heap.size := World.block_lt_of_cell? w _ h.c0
  exact ⟨(E.cell hg).trans h.c0, (E.cell hg).trans h.c1, (E.cell hg).trans h.c2⟩
theorem tri3 {w : World} {g o : Nat} {x y z : Value} (h : Tri w g o x y z) : w.cell? ⟨g, o, none⟩ = some x ∧ w.cell? ⟨g, o + 1, none⟩ = some y ∧ w.cell? ⟨g, o + 2, none⟩ = some z := ⟨h.c0, h.c1, h.c2⟩
/-- At g lie four numbers. -/
def Four (w : World) (g : Nat) (p : Nat → Dyadic) : Prop := ∀ q, q < 4 → ∃ (b : Bool) (A : Option Addr) (n c : Nat) (e : Int), Tri w g (q * 3) (.bool b) (.slice A n c) (.int .i64 e) ∧ Dn w (.agg #[.bool b, .slice A n c, .int .i64 e]) (p q)
theorem Four.ext {w w' : World} {g : Nat} {p : Nat → Dyadic} (h : Four w g p) (E : Ext w w') : Four w' g p := fun q hq => by
  obtain ⟨b, A, n, c, e, h1, h2⟩ := h q hq
  exact ⟨b, A, n, c, e, h1.ext E, h2.ext E⟩
def p4 (a b c d : Dyadic) (q : Nat) : Dyadic := if q = 0 then a else if q = 1 then b else if q = 2 then c else d
def anyB (p : Nat → Dyadic) (L : Dyadic) (j : Nat) : Bool := decide (∃ q, q < j ∧ p q = L)
theorem anyB_succ (p : Nat → Dyadic) (L : Dyadic) (j : Nat) : anyB p L (j + 1) = (anyB p L j || decide (p j = L)) := by
  unfold anyB
  by_cases h : ∃ q, q < j ∧ p q = L
  · obtain ⟨q, h1, h2⟩ := id h
    rw [decide_eq_true h, Bool.true_or, decide_eq_true (⟨q, by omega, h2⟩ : ∃ q, q < j + 1 ∧ p q = L)]
  · rw [decide_eq_false h, Bool.false_or]
    apply decide_eq_decide.2
    constructor
    · rintro ⟨q, h1, h2⟩
      by_cases hq : q = j
      · rw [← hq]; exact h2
      · exact absurd ⟨q, by omega, h2⟩ h
    · intro h2; exact ⟨j, by omega, h2⟩
theorem any_min (a b c d : Dyadic) : anyB (p4 a b c d) (min4 a b c d) 4 = true := decide_eq_true (by
  rcases min4_or a b c d with h | h | h | h
  · exact ⟨0, by omega, h.symm⟩
  · exact ⟨1, by omega, h.symm⟩
  · exact ⟨2, by omega, h.symm⟩
  · exact ⟨3, by omega, h.symm⟩)
theorem any_max (a b c d : Dyadic) : anyB (p4 a b c d) (max4 a b c d) 4 = true := decide_eq_true (by
  rcases max4_or a b c d with h | h | h | h
  · exact ⟨0, by omega, h.symm⟩
  · exact ⟨1, by omega, h.symm⟩
  · exact ⟨2, by omega, h.symm⟩
  · exact ⟨3, by omega, h.symm⟩)
set_option maxRecDepth 100000 in
set_option maxHeartbeats 4000000 in
theorem ends_no (w : World) (T : Tb w) (nba : Bool) (Ma : Value) (xa : List Int) (ia : Int) (rowa : Row w Ma xa) (bda : -9223372036854775808 ≤ ia ∧ ia ≤ 9223372036854775807) (nba' : Bool) (Ma' : Value) (xa' : List Int) (ia' : Int) (rowa' : Row w Ma' xa') (bda' : -9223372036854775808 ≤ ia' ∧ ia' ≤ 9223372036854775807) (nbb : Bool) (Mb : Value) (xb : List Int) (ib : Int) (rowb : Row w Mb xb) (bdb : -9223372036854775808 ≤ ib ∧ ib ≤ 9223372036854775807) (nbb' : Bool) (Mb' : Value) (xb' : List Int) (ib' : Int) (rowb' : Row w Mb' xb') (bdb' : -9223372036854775808 ≤ ib' ∧ ib' ≤ 9223372036854775807) (hg : goodIs 2 (pk nba nbb nbb) (pk xa xb xb) (pk ia ib ib) (pk nba' nbb' nbb') (pk xa' xb' xb') (pk ia' ib' ib') = false) :
    Calls Tryd.prog 4 #[.agg #[.bool nba, Ma, .int .i64 ia, .bool nba', Ma', .int .i64 ia'], .agg #[.bool nbb, Mb, .int .i64 ib, .bool nbb', Mb', .int .i64 ib']] w (RetE w (.bool true)) := by
  go_enter Tryd.func4, Tryd.ntmps4
  go_wp2_with fail
  refine (headI_any _ (T.ext (((Ext.refl w).alloc _).alloc _))).mono ?_
  rintro _ w1 ⟨rfl, f1⟩
  have Ba : Bx w1 (w.heap.size) (.bool nba) (Ma) (.int .i64 ia) (.bool nba') (Ma') (.int .i64 ia') := Bx.at (((Ext.refl _).alloc _).trans f1) (by simp)
  have Bb : Bx w1 (w.heap.size + 1) (.bool nbb) (Mb) (.int .i64 ib) (.bool nbb') (Mb') (.int .i64 ib') := Bx.at ((Ext.refl _).trans f1) (by simp)
  have e1 : Ext w w1 := (((Ext.refl w).alloc _).alloc _).trans f1
  replace T := T.ext e1
  replace rowa := rowa.ext e1
  replace rowa' := rowa'.ext e1
  replace rowb := rowb.ext e1
  replace rowb' := rowb'.ext e1
  have E1 : Ext w w1 := e1
  clear f1
  obtain ⟨Ba_0, Ba_1, Ba_2, Ba_3, Ba_4, Ba_5⟩ := id Ba
  have Ba_l := World.block_lt_of_cell? _ _ Ba_0
  obtain ⟨Bb_0, Bb_1, Bb_2, Bb_3, Bb_4, Bb_5⟩ := id Bb
  have Bb_l := World.block_lt_of_cell? _ _ Bb_0
  have HG := Lib.hid (good5_any _ _ 2 2 _ _ _ _ _ _ _ _ (by omega) (manyI2 w1 26 nba nbb Ma Mb xa xb ia ib rowa rowb bda bdb nba' nbb' Ma' Mb' xa' xb' ia' ib' rowa' rowb' bda' bdb'))
  rw [hg] at HG
  clear hg
  go_wp2_with fail
  refine (HG.out).mono ?_
  rintro _ w2 ⟨rfl, f2⟩
  clear Ba_0 Ba_1 Ba_2 Ba_3 Ba_4 Ba_5 Ba_l Bb_0 Bb_1 Bb_2 Bb_3 Bb_4 Bb_5 Bb_l
  have e2 : Ext w1 w2 := ((Ext.refl w1).alloc _).trans f2
  replace T := T.ext e2
  replace rowa := rowa.ext e2
  replace rowa' := rowa'.ext e2
  replace rowb := rowb.ext e2
  replace rowb' := rowb'.ext e2
  replace Ba := Ba.ext e2
  replace Bb := Bb.ext e2
  have E2 : Ext w w2 := E1.trans e2
  clear e2 f2 E1
  clear HG
  go_wp2
  go_ret
  exact ⟨rfl, E2⟩
set_option maxRecDepth 100000 in
set_option maxHeartbeats 4000000 in
theorem ends_yes (w : World) (T : Tb w) (nba : Bool) (Ma : Value) (xa : List Int) (ia : Int) (rowa : Row w Ma xa) (bda : -9223372036854775808 ≤ ia ∧ ia ≤ 9223372036854775807) (nba' : Bool) (Ma' : Value) (xa' : List Int) (ia' : Int) (rowa' : Row w Ma' xa') (bda' : -9223372036854775808 ≤ ia' ∧ ia' ≤ 9223372036854775807) (nbb : Bool) (Mb : Value) (xb : List Int) (ib : Int) (rowb : Row w Mb xb) (bdb : -9223372036854775808 ≤ ib ∧ ib ≤ 9223372036854775807) (nbb' : Bool) (Mb' : Value) (xb' : List Int) (ib' : Int) (rowb' : Row w Mb' xb') (bdb' : -9223372036854775808 ≤ ib' ∧ ib' ≤ 9223372036854775807) (hg : goodIs 2 (pk nba nbb nbb) (pk xa xb xb) (pk ia ib ib) (pk nba' nbb' nbb') (pk xa' xb' xb') (pk ia' ib' ib') = true) (la ha : Dyadic) (na : In w (.agg #[.bool nba, Ma, .int .i64 ia, .bool nba', Ma', .int .i64 ia']) la ha) (oa : la ≤ ha) (rla : Rg 200 392 la) (rha : Rg 200 392 ha) (lb hb : Dyadic) (nb : In w (.agg #[.bool nbb, Mb, .int .i64 ib, .bool nbb', Mb', .int .i64 ib']) lb hb) (ob : lb ≤ hb) (rlb : Rg 200 392 lb) (rhb : Rg 200 392 hb) :
    Calls Tryd.prog 4 #[.agg #[.bool nba, Ma, .int .i64 ia, .bool nba', Ma', .int .i64 ia'], .agg #[.bool nbb, Mb, .int .i64 ib, .bool nbb', Mb', .int .i64 ib']] w (RetE w (.bool true)) := by
  go_enter Tryd.func4, Tryd.ntmps4
  go_wp2_with fail
  refine (headI_any _ (T.ext (((Ext.refl w).alloc _).alloc _))).mono ?_
  rintro _ w1 ⟨rfl, f1⟩
  have Ba : Bx w1 (w.heap.size) (.bool nba) (Ma) (.int .i64 ia) (.bool nba') (Ma') (.int .i64 ia') := Bx.at (((Ext.refl _).alloc _).trans f1) (by simp)
  have Bb : Bx w1 (w.heap.size + 1) (.bool nbb) (Mb) (.int .i64 ib) (.bool nbb') (Mb') (.int .i64 ib') := Bx.at ((Ext.refl _).trans f1) (by simp)
  have e1 : Ext w w1 := (((Ext.refl w).alloc _).alloc _).trans f1
  replace T := T.ext e1
  replace rowa := rowa.ext e1
  replace rowa' := rowa'.ext e1
  replace rowb := rowb.ext e1
  replace rowb' := rowb'.ext e1
  replace na := na.ext e1
  replace nb := nb.ext e1
  have E1 : Ext w w1 := e1
  clear f1
  obtain ⟨Ba_0, Ba_1, Ba_2, Ba_3, Ba_4, Ba_5⟩ := id Ba
  have Ba_l := World.block_lt_of_cell? _ _ Ba_0
  obtain ⟨Bb_0, Bb_1, Bb_2, Bb_3, Bb_4, Bb_5⟩ := id Bb
  have Bb_l := World.block_lt_of_cell? _ _ Bb_0
  have HG := Lib.hid (good5_any _ _ 2 2 _ _ _ _ _ _ _ _ (by omega) (manyI2 w1 26 nba nbb Ma Mb xa xb ia ib rowa rowb bda bdb nba' nbb' Ma' Mb' xa' xb' ia' ib' rowa' rowb' bda' bdb'))
  rw [hg] at HG
  clear hg
  go_wp2_with fail
  refine (HG.out).mono ?_
  rintro _ w2 ⟨rfl, f2⟩
  clear Ba_0 Ba_1 Ba_2 Ba_3 Ba_4 Ba_5 Ba_l Bb_0 Bb_1 Bb_2 Bb_3 Bb_4 Bb_5 Bb_l
  have e2 : Ext w1 w2 := ((Ext.refl w1).alloc _).trans f2
  replace T := T.ext e2
  replace rowa := rowa.ext e2
  replace rowa' := rowa'.ext e2
  replace rowb := rowb.ext e2
  replace rowb' := rowb'.ext e2
  replace na := na.ext e2
  replace nb := nb.ext e2
  replace Ba := Ba.ext e2
  replace Bb := Bb.ext e2
  have E2 : Ext w w2 := E1.trans e2
  clear e2 f2 E1
  clear HG
  clear rowa rowa' rowb rowb'
  clear bda bda' bdb bdb'
  obtain ⟨Ba_0, Ba_1, Ba_2, Ba_3, Ba_4, Ba_5⟩ := id Ba
  have Ba_l := World.block_lt_of_cell? _ _ Ba_0
  obtain ⟨Bb_0, Bb_1, Bb_2, Bb_3, Bb_4, Bb_5⟩ := id Bb
  have Bb_l := World.block_lt_of_cell? _ _ Bb_0
  go_wp2_with fail
  refine (imul_any _ _ _ la ha lb hb 200 392 200 392 na nb rla rha rlb rhb (by omega) T).mono ?_
  rintro _ w3 ⟨v3, rfl, im, f3⟩
  clear Ba_0 Ba_1 Ba_2 Ba_3 Ba_4 Ba_5 Ba_l Bb_0 Bb_1 Bb_2 Bb_3 Bb_4 Bb_5 Bb_l
  have e3 : Ext w2 w3 := (Ext.refl w2).trans f3
  replace T := T.ext e3
  replace na := na.ext e3
  replace nb := nb.ext e3
  replace Ba := Ba.ext e3
  replace Bb := Bb.ext e3
  have E3 : Ext w w3 := E2.trans e3
  clear e3 f3 E2
  obtain ⟨bim, Aim, lim, cim, jim, bim', Aim', lim', cim', jim', rfl, im_l, im_h⟩ := im
  have im := In.mk im_l im_h
  clear im_l im_h
  have p1 := rla.mul rlb
  have p2 := rla.mul rhb
  have p3 := rha.mul rlb
  have p4_ := rha.mul rhb
  go_wp2
  try simp only [List.append_eq, List.cons_append, List.nil_append]
  have Vm : Bx (w3.alloc (.cells #[.bool bim, .slice Aim lim cim, .int .i64 jim, .bool bim', .slice Aim' lim' cim', .int .i64 jim'] 26)) w3.heap.size (.bool bim) (.slice Aim lim cim) (.int .i64 jim) (.bool bim') (.slice Aim' lim' cim') (.int .i64 jim') := Bx.at (Ext.refl _) rfl
  have eV9 : Ext w3 (w3.alloc (.cells #[.bool bim, .slice Aim lim cim, .int .i64 jim, .bool bim', .slice Aim' lim' cim', .int .i64 jim'] 26)) := (Ext.refl _).alloc _
  replace T := T.ext eV9
  replace na := na.ext eV9
  replace nb := nb.ext eV9
  replace im := im.ext eV9
  replace Ba := Ba.ext eV9
  replace Bb := Bb.ext eV9
  have EV9 := E3.trans eV9
  clear eV9 E3
  generalize hgen : (w3.alloc (.cells #[.bool bim, .slice Aim lim cim, .int .i64 jim, .bool bim', .slice Aim' lim' cim', .int .i64 jim'] 26)) = V9 at *
  clear hgen
  obtain ⟨Ba_0, Ba_1, Ba_2, Ba_3, Ba_4, Ba_5⟩ := id Ba
  have Ba_l := World.block_lt_of_cell? _ _ Ba_0
  obtain ⟨Bb_0, Bb_1, Bb_2, Bb_3, Bb_4, Bb_5⟩ := id Bb
  have Bb_l := World.block_lt_of_cell? _ _ Bb_0
  obtain ⟨Vm_0, Vm_1, Vm_2, Vm_3, Vm_4, Vm_5⟩ := id Vm
  have Vm_l := World.block_lt_of_cell? _ _ Vm_0
  refine wp_region_held_drew (S := (fun w' => (w'.cell? ⟨w.heap.size, 0, none⟩ = some (.bool nba) ∧ w'.cell? ⟨w.heap.size, 1, none⟩ = some (Ma) ∧ w'.cell? ⟨w.heap.size, 2, none⟩ = some (.int .i64 ia) ∧ w'.cell? ⟨w.heap.size, 3, none⟩ = some (.bool nba') ∧ w'.cell? ⟨w.heap.size, 4, none⟩ = some (Ma') ∧ w'.cell? ⟨w.heap.size, 5, none⟩ = some (.int .i64 ia')) ∧ (w'.cell? ⟨w.heap.size + 1, 0, none⟩ = some (.bool nbb) ∧ w'.cell? ⟨w.heap.size + 1, 1, none⟩ = some (Mb) ∧ w'.cell? ⟨w.heap.size + 1, 2, none⟩ = some (.int .i64 ib) ∧ w'.cell? ⟨w.heap.size + 1, 3, none⟩ = some (.bool nbb') ∧ w'.cell? ⟨w.heap.size + 1, 4, none⟩ = some (Mb') ∧ w'.cell? ⟨w.heap.size + 1, 5, none⟩ = some (.int .i64 ib')) ∧ (w'.cell? ⟨w3.heap.size, 0, none⟩ = some (.bool bim) ∧ w'.cell? ⟨w3.heap.size, 1, none⟩ = some (.slice Aim lim cim) ∧ w'.cell? ⟨w3.heap.size, 2, none⟩ = some (.int .i64 jim) ∧ w'.cell? ⟨w3.heap.size, 3, none⟩ = some (.bool bim') ∧ w'.cell? ⟨w3.heap.size, 4, none⟩ = some (.slice Aim' lim' cim') ∧ w'.cell? ⟨w3.heap.size, 5, none⟩ = some (.int .i64 jim')))) (by as_aux_lemma => kernel_rfl) ⟨bx6 (Ba.ext (Ext.refl V9).drew), bx6 (Bb.ext (Ext.refl V9).drew), bx6 (Vm.ext (Ext.refl V9).drew)⟩ (fun hHeld => ?_)
  refine wpAnyH_take (i := 0) (v := ?_) rfl (by as_aux_lemma => kernel_rfl) (by as_aux_lemma => kernel_rfl) (by as_aux_lemma => kernel_rfl) (fun _ _ _ h => h) (Or.inl ⟨by rfl, ?_⟩) (by assumption) ?_
  rotate_left
  · (intro w hSw; (try dsimp only at hSw); go_simp); (try with_reducible rfl)
  simp only [List.getElem_toArray, List.getElem_cons_zero, Act.put, List.setIfInBounds_toArray, List.set_cons_zero, List.set_cons_succ]
  refine wpAnyH_take (i := 2) (v := ?_) rfl (by as_aux_lemma => kernel_rfl) (by as_aux_lemma => kernel_rfl) (by as_aux_lemma => kernel_rfl) (fun _ _ _ h => h) (Or.inl ⟨by rfl, ?_⟩) (by assumption) ?_
  rotate_left
  · (intro w hSw; (try dsimp only at hSw); go_simp); (try with_reducible rfl)
  simp only [List.getElem_toArray, List.getElem_cons_zero, List.getElem_cons_succ, Act.put, List.setIfInBounds_toArray, List.set_cons_zero, List.set_cons_succ]
  refine wpAnyH_take (i := 5) (v := ?_) rfl (by as_aux_lemma => kernel_rfl) (by as_aux_lemma => kernel_rfl) (by as_aux_lemma => kernel_rfl) (fun _ _ _ h => h) (Or.inl ⟨by rfl, ?_⟩) (by assumption) ?_
  rotate_left
  · (intro w hSw; (try dsimp only at hSw); go_simp); (try with_reducible rfl)
  simp only [List.getElem_toArray, List.getElem_cons_zero, List.getElem_cons_succ, Act.put, List.setIfInBounds_toArray, List.set_cons_zero, List.set_cons_succ]
  refine wpAnyH_take (i := 7) (v := ?_) rfl (by as_aux_lemma => kernel_rfl) (by as_aux_lemma => kernel_rfl) (by as_aux_lemma => kernel_rfl) (fun _ _ _ h => h) (Or.inl ⟨by rfl, ?_⟩) (by assumption) ?_
  rotate_left
  · (intro w hSw; (try dsimp only at hSw); go_simp); (try with_reducible rfl)
  simp only [List.getElem_toArray, List.getElem_cons_zero, List.getElem_cons_succ, Act.put, List.setIfInBounds_toArray, List.set_cons_zero, List.set_cons_succ]
  refine wpAnyH_take (i := 10) (v := ?_) rfl (by as_aux_lemma => kernel_rfl) (by as_aux_lemma => kernel_rfl) (by as_aux_lemma => kernel_rfl) (fun _ _ _ h => h) (Or.inl ⟨by rfl, ?_⟩) (by assumption) ?_
  rotate_left
  · (intro w hSw; (try dsimp only at hSw); go_simp); (try with_reducible rfl)
  simp only [List.getElem_toArray, List.getElem_cons_zero, List.getElem_cons_succ, Act.put, List.setIfInBounds_toArray, List.set_cons_zero, List.set_cons_succ]
  refine wpAnyH_take (i := 12) (v := ?_) rfl (by as_aux_lemma => kernel_rfl) (by as_aux_lemma => kernel_rfl) (by as_aux_lemma => kernel_rfl) (fun _ _ _ h => h) (Or.inl ⟨by rfl, ?_⟩) (by assumption) ?_
  rotate_left
  · (intro w hSw; (try dsimp only at hSw); go_simp); (try with_reducible rfl)
  simp only [List.getElem_toArray, List.getElem_cons_zero, List.getElem_cons_succ, Act.put, List.setIfInBounds_toArray, List.set_cons_zero, List.set_cons_succ]
  refine wpAnyH_take (i := 15) (v := ?_) rfl (by as_aux_lemma => kernel_rfl) (by as_aux_lemma => kernel_rfl) (by as_aux_lemma => kernel_rfl) (fun _ _ _ h => h) (Or.inl ⟨by rfl, ?_⟩) (by assumption) ?_
  rotate_left
  · (intro w hSw; (try dsimp only at hSw); go_simp); (try with_reducible rfl)
  simp only [List.getElem_toArray, List.getElem_cons_zero, List.getElem_cons_succ, Act.put, List.setIfInBounds_toArray, List.set_cons_zero, List.set_cons_succ]
  refine wpAnyH_take (i := 17) (v := ?_) rfl (by as_aux_lemma => kernel_rfl) (by as_aux_lemma => kernel_rfl) (by as_aux_lemma => kernel_rfl) (fun _ _ _ h => h) (Or.inl ⟨by rfl, ?_⟩) (by assumption) ?_
  rotate_left
  · (intro w hSw; (try dsimp only at hSw); go_simp); (try with_reducible rfl)
  simp only [List.getElem_toArray, List.getElem_cons_zero, List.getElem_cons_succ, Act.put, List.setIfInBounds_toArray, List.set_cons_zero, List.set_cons_succ]
  refine wpAnyH_take (i := 1) (v := ?_) rfl (by as_aux_lemma => kernel_rfl) (by as_aux_lemma => kernel_rfl) (by as_aux_lemma => kernel_rfl) (fun _ _ _ h => h) (Or.inl ⟨by rfl, ?_⟩) (by assumption) ?_
  rotate_left
  · (intro w hSw; (try dsimp only at hSw); go_simp); (try with_reducible rfl)
  simp only [List.getElem_toArray, List.getElem_cons_zero, List.getElem_cons_succ, Act.put, List.setIfInBounds_toArray, List.set_cons_zero, List.set_cons_succ]
  refine wpAnyH_take (i := 3) (v := ?_) rfl (by as_aux_lemma => kernel_rfl) (by as_aux_lemma => kernel_rfl) (by as_aux_lemma => kernel_rfl) (fun _ _ _ h => h) (Or.inl ⟨by rfl, ?_⟩) (by assumption) ?_
  rotate_left
  · (intro w hSw; (try dsimp only at hSw); go_simp); (try with_reducible rfl)
  simp only [List.getElem_toArray, List.getElem_cons_zero, List.getElem_cons_succ, Act.put, List.setIfInBounds_toArray, List.set_cons_zero, List.set_cons_succ]
  refine wpAnyH_take (i := 6) (v := ?_) rfl (by as_aux_lemma => kernel_rfl) (by as_aux_lemma => kernel_rfl) (by as_aux_lemma => kernel_rfl) (fun _ _ _ h => h) (Or.inl ⟨by rfl, ?_⟩) (by assumption) ?_
  rotate_left
  · (intro w hSw; (try dsimp only at hSw); go_simp); (try with_reducible rfl)
  simp only [List.getElem_toArray, List.getElem_cons_zero, List.getElem_cons_succ, Act.put, List.setIfInBounds_toArray, List.set_cons_zero, List.set_cons_succ]
  refine wpAnyH_take (i := 8) (v := ?_) rfl (by as_aux_lemma => kernel_rfl) (by as_aux_lemma => kernel_rfl) (by as_aux_lemma => kernel_rfl) (fun _ _ _ h => h) (Or.inl ⟨by rfl, ?_⟩) (by assumption) ?_
  rotate_left
  · (intro w hSw; (try dsimp only at hSw); go_simp); (try with_reducible rfl)
  simp only [List.getElem_toArray, List.getElem_cons_zero, List.getElem_cons_succ, Act.put, List.setIfInBounds_toArray, List.set_cons_zero, List.set_cons_succ]
  refine wpAnyH_take (i := 11) (v := ?_) rfl (by as_aux_lemma => kernel_rfl) (by as_aux_lemma => kernel_rfl) (by as_aux_lemma => kernel_rfl) (fun _ _ _ h => h) (Or.inl ⟨by rfl, ?_⟩) (by assumption) ?_
  rotate_left
  · (intro w hSw; (try dsimp only at hSw); go_simp); (try with_reducible rfl)
  simp only [List.getElem_toArray, List.getElem_cons_zero, List.getElem_cons_succ, Act.put, List.setIfInBounds_toArray, List.set_cons_zero, List.set_cons_succ]
  refine wpAnyH_take (i := 13) (v := ?_) rfl (by as_aux_lemma => kernel_rfl) (by as_aux_lemma => kernel_rfl) (by as_aux_lemma => kernel_rfl) (fun _ _ _ h => h) (Or.inl ⟨by rfl, ?_⟩) (by assumption) ?_
  rotate_left
  · (intro w hSw; (try dsimp only at hSw); go_simp); (try with_reducible rfl)
  simp only [List.getElem_toArray, List.getElem_cons_zero, List.getElem_cons_succ, Act.put, List.setIfInBounds_toArray, List.set_cons_zero, List.set_cons_succ]
  refine wpAnyH_take (i := 16) (v := ?_) rfl (by as_aux_lemma => kernel_rfl) (by as_aux_lemma => kernel_rfl) (by as_aux_lemma => kernel_rfl) (fun _ _ _ h => h) (Or.inl ⟨by rfl, ?_⟩) (by assumption) ?_
  rotate_left
  · (intro w hSw; (try dsimp only at hSw); go_simp); (try with_reducible rfl)
  simp only [List.getElem_toArray, List.getElem_cons_zero, List.getElem_cons_succ, Act.put, List.setIfInBounds_toArray, List.set_cons_zero, List.set_cons_succ]
  refine wpAnyH_take (i := 18) (v := ?_) rfl (by as_aux_lemma => kernel_rfl) (by as_aux_lemma => kernel_rfl) (by as_aux_lemma => kernel_rfl) (fun _ _ _ h => h) (Or.inl ⟨by rfl, ?_⟩) (by assumption) ?_
  rotate_left
  · (intro w hSw; (try dsimp only at hSw); go_simp); (try with_reducible rfl)
  simp only [List.getElem_toArray, List.getElem_cons_zero, List.getElem_cons_succ, Act.put, List.setIfInBounds_toArray, List.set_cons_zero, List.set_cons_succ]
  refine wpAnyH_ready (rs := [4]) (by as_aux_lemma => kernel_rfl) (by simp) ?_
  refine AllReadyH.cons rfl (fun K hK => ?_) AllReadyH.nil
  go_simp
  refine (rmulD_any _ _ _ la lb 200 392 200 392 (na.ext (Ext.refl V9).drew).lo (nb.ext (Ext.refl V9).drew).lo rla rlb (by omega) (by omega)).mono ?_
  rintro _ u1 ⟨vu1, rfl, m1, eu1⟩
  have F1 : Ext V9 u1 := (Ext.refl V9).drew.trans eu1
  obtain ⟨yu1, Yu1, pu1, qu1, xu1, rfl⟩ := m1.form
  refine hK.out _ _ ⟨bx6 (Ba.ext F1), bx6 (Bb.ext F1), bx6 (Vm.ext F1)⟩ (fun hHeld => ?_)
  clear hK K eu1
  refine wpAnyH_ready (rs := [9]) (by as_aux_lemma => kernel_rfl) (by simp) ?_
  refine AllReadyH.cons rfl (fun K hK => ?_) AllReadyH.nil
  go_simp
  refine (rmulD_any _ _ _ la hb 200 392 200 392 (na.ext F1).lo (nb.ext F1).hi rla rhb (by omega) (by omega)).mono ?_
  rintro _ u2 ⟨vu2, rfl, m2, eu2⟩
  have F2 : Ext V9 u2 := F1.trans eu2
  replace m1 := m1.ext eu2
  obtain ⟨yu2, Yu2, pu2, qu2, xu2, rfl⟩ := m2.form
  refine hK.out _ _ ⟨bx6 (Ba.ext F2), bx6 (Bb.ext F2), bx6 (Vm.ext F2)⟩ (fun hHeld => ?_)
  clear hK K eu2 F1
  refine wpAnyH_ready (rs := [14]) (by as_aux_lemma => kernel_rfl) (by simp) ?_
  refine AllReadyH.cons rfl (fun K hK => ?_) AllReadyH.nil
  go_simp
  refine (rmulD_any _ _ _ ha lb 200 392 200 392 (na.ext F2).hi (nb.ext F2).lo rha rlb (by omega) (by omega)).mono ?_
  rintro _ u3 ⟨vu3, rfl, m3, eu3⟩
  have F3 : Ext V9 u3 := F2.trans eu3
  replace m1 := m1.ext eu3
  replace m2 := m2.ext eu3
  obtain ⟨yu3, Yu3, pu3, qu3, xu3, rfl⟩ := m3.form
  refine hK.out _ _ ⟨bx6 (Ba.ext F3), bx6 (Bb.ext F3), bx6 (Vm.ext F3)⟩ (fun hHeld => ?_)
  clear hK K eu3 F2
  refine wpAnyH_ready (rs := [19]) (by as_aux_lemma => kernel_rfl) (by simp) ?_
  refine AllReadyH.cons rfl (fun K hK => ?_) AllReadyH.nil
  go_simp
  refine (rmulD_any _ _ _ ha hb 200 392 200 392 (na.ext F3).hi (nb.ext F3).hi rha rhb (by omega) (by omega)).mono ?_
  rintro _ u4 ⟨vu4, rfl, m4, eu4⟩
  have F4 : Ext V9 u4 := F3.trans eu4
  replace m1 := m1.ext eu4
  replace m2 := m2.ext eu4
  replace m3 := m3.ext eu4
  obtain ⟨yu4, Yu4, pu4, qu4, xu4, rfl⟩ := m4.form
  refine hK.out _ _ ⟨bx6 (Ba.ext F4), bx6 (Bb.ext F4), bx6 (Vm.ext F4)⟩ (fun hHeld => ?_)
  clear hK K eu4 F3
  refine wpAnyH_ready (rs := [20]) (by as_aux_lemma => kernel_rfl) (by simp) ?_
  refine AllReadyH.cons rfl (fun K hK => ?_) AllReadyH.nil
  go_simp
  refine hK.out _ _ ⟨bx6 (Ba.ext (F4.alloc _)), bx6 (Bb.ext (F4.alloc _)), bx6 (Vm.ext (F4.alloc _))⟩ (fun hHeld => ?_)
  clear hK K
  refine wpAnyH_take (i := 21) (v := ?_) rfl (by as_aux_lemma => kernel_rfl) (by as_aux_lemma => kernel_rfl) (by as_aux_lemma => kernel_rfl) (fun _ _ _ h => h) (Or.inl ⟨by rfl, ?_⟩) (by assumption) ?_
  rotate_left
  · (intro w hSw; (try dsimp only at hSw); go_simp); (try with_reducible rfl)
  simp only [List.getElem_toArray, List.getElem_cons_zero, List.getElem_cons_succ, Act.put, List.setIfInBounds_toArray, List.set_cons_zero, List.set_cons_succ]
  refine wpAnyH_done (by as_aux_lemma => kernel_rfl) ?_ _
  have e5 : Ext V9 (u4.alloc (.cells #[.bool yu1, .slice Yu1 pu1 qu1, .int .i64 xu1, .bool yu2, .slice Yu2 pu2 qu2, .int .i64 xu2, .bool yu3, .slice Yu3 pu3 qu3, .int .i64 xu3, .bool yu4, .slice Yu4 pu4 qu4, .int .i64 xu4] 24)) := F4.alloc _
  have El : Four (u4.alloc (.cells #[.bool yu1, .slice Yu1 pu1 qu1, .int .i64 xu1, .bool yu2, .slice Yu2 pu2 qu2, .int .i64 xu2, .bool yu3, .slice Yu3 pu3 qu3, .int .i64 xu3, .bool yu4, .slice Yu4 pu4 qu4, .int .i64 xu4] 24)) u4.heap.size (p4 (la * lb) (la * hb) (ha * lb) (ha * hb)) := fun q hq => by
    obtain rfl | rfl | rfl | rfl : q = 0 ∨ q = 1 ∨ q = 2 ∨ q = 3 := by omega
    · exact ⟨_, _, _, _, _, ⟨by rw [World.cell?_alloc_new]; rfl, by rw [World.cell?_alloc_new]; rfl, by rw [World.cell?_alloc_new]; rfl⟩, m1.ext ((Ext.refl _).alloc _)⟩
    · exact ⟨_, _, _, _, _, ⟨by rw [World.cell?_alloc_new]; rfl, by rw [World.cell?_alloc_new]; rfl, by rw [World.cell?_alloc_new]; rfl⟩, m2.ext ((Ext.refl _).alloc _)⟩
    · exact ⟨_, _, _, _, _, ⟨by rw [World.cell?_alloc_new]; rfl, by rw [World.cell?_alloc_new]; rfl, by rw [World.cell?_alloc_new]; rfl⟩, m3.ext ((Ext.refl _).alloc _)⟩
    · exact ⟨_, _, _, _, _, ⟨by rw [World.cell?_alloc_new]; rfl, by rw [World.cell?_alloc_new]; rfl, by rw [World.cell?_alloc_new]; rfl⟩, m4.ext ((Ext.refl _).alloc _)⟩
  replace T := T.ext e5
  replace na := na.ext e5
  replace nb := nb.ext e5
  replace im := im.ext e5
  replace Ba := Ba.ext e5
  replace Bb := Bb.ext e5
  replace Vm := Vm.ext e5
  have E5 := EV9.trans e5
  clear e5 F4 m1 m2 m3 m4 EV9 Ba_0 Ba_1 Ba_2 Ba_3 Ba_4 Ba_5 Ba_l Bb_0 Bb_1 Bb_2 Bb_3 Bb_4 Bb_5 Bb_l Vm_0 Vm_1 Vm_2 Vm_3 Vm_4 Vm_5 Vm_l hHeld
  generalize hgen : (u4.alloc (.cells #[.bool yu1, .slice Yu1 pu1 qu1, .int .i64 xu1, .bool yu2, .slice Yu2 pu2 qu2, .int .i64 xu2, .bool yu3, .slice Yu3 pu3 qu3, .int .i64 xu3, .bool yu4, .slice Yu4 pu4 qu4, .int .i64 xu4] 24)) = V5 at *
  generalize u4.heap.size = gl at *
  clear hgen
  generalize hP : p4 (la * lb) (la * hb) (ha * lb) (ha * hb) = pp at *
  have HA := Lib.hid (And.intro (any_min (la * lb) (la * hb) (ha * lb) (ha * hb)) (any_max (la * lb) (la * hb) (ha * lb) (ha * hb)))
  rw [hP] at HA
  clear hP
  obtain ⟨L, hL⟩ : ∃ L, min4 (la * lb) (la * hb) (ha * lb) (ha * hb) = L := ⟨_, rfl⟩
  obtain ⟨H, hH⟩ : ∃ H, max4 (la * lb) (la * hb) (ha * lb) (ha * hb) = H := ⟨_, rfl⟩
  unfold mlo mhi at im
  rw [hL, hH] at im HA
  clear hL hH
  go_wp2
  go_loopw [8, 9, 10] (fun lo hi i wr => ∃ j : Nat, j ≤ 4 ∧ i = .int .i64 (j : Int) ∧ lo = .bool (anyB pp L j) ∧ hi = .bool (anyB pp H j) ∧ Ext V5 wr) (fun _ _ i _ => (4 - (intOf i)).toNat)
  case atStart => exact ⟨0, by omega, rfl, by simp [anyB], by simp [anyB], Ext.refl _⟩
  case round =>
    obtain ⟨j, hj, rfl, rfl, rfl, hE⟩ := hrel
    by_cases hj4 : j < 4
    · obtain ⟨bq, Aq, nq, cq, eq, Tr, dq⟩ := (El.ext hE) j hj4
      have hj1 : (j : Int) < 4 := by omega
      replace im := im.ext hE
      replace Vm := Vm.ext hE
      have al := anyB_succ pp L j
      have ah := anyB_succ pp H j
      obtain ⟨s1, h1⟩ : ∃ s, decide (pp j = L) = s := ⟨_, rfl⟩
      obtain ⟨s2, h2⟩ : ∃ s, decide (pp j = H) = s := ⟨_, rfl⟩
      rw [h1] at al
      rw [h2] at ah
      have Hx := Lib.hid h1
      have Hy := Lib.hid h2
      have AL := Lib.hid al
      have AH := Lib.hid ah
      clear h1 h2 al ah
      generalize anyB pp L j = x1 at *
      generalize anyB pp H j = x2 at *
      obtain ⟨t0, t1, t2⟩ := id Tr
      obtain ⟨v0, v1, v2, v3, v4, v5⟩ := id Vm
      cases x1 with
      | true =>
        go_wp2
        refine wp_region_held_drew (S := (fun w' => (w'.cell? ⟨w3.heap.size, 0, none⟩ = some (.bool bim) ∧ w'.cell? ⟨w3.heap.size, 1, none⟩ = some (.slice Aim lim cim) ∧ w'.cell? ⟨w3.heap.size, 2, none⟩ = some (.int .i64 jim) ∧ w'.cell? ⟨w3.heap.size, 3, none⟩ = some (.bool bim') ∧ w'.cell? ⟨w3.heap.size, 4, none⟩ = some (.slice Aim' lim' cim') ∧ w'.cell? ⟨w3.heap.size, 5, none⟩ = some (.int .i64 jim')) ∧ (w'.cell? ⟨gl, j * 3, none⟩ = some (.bool bq) ∧ w'.cell? ⟨gl, j * 3 + 1, none⟩ = some (.slice Aq nq cq) ∧ w'.cell? ⟨gl, j * 3 + 2, none⟩ = some (.int .i64 eq)))) (by as_aux_lemma => kernel_rfl) ⟨bx6 (Vm.ext (Ext.refl wr).drew), tri3 (Tr.ext (Ext.refl wr).drew)⟩ (fun hHeld => ?_)
        refine wpAnyH_take (i := 0) (v := ?_) rfl (by as_aux_lemma => kernel_rfl) (by as_aux_lemma => kernel_rfl) (by as_aux_lemma => kernel_rfl) (fun _ _ _ h => h) (Or.inl ⟨by rfl, ?_⟩) (by assumption) ?_
        rotate_left
        · (intro w hSw; (try dsimp only at hSw); go_simp); (try with_reducible rfl)
        simp only [List.getElem_toArray, List.getElem_cons_zero, Act.put, List.setIfInBounds_toArray, List.set_cons_zero, List.set_cons_succ]
        refine wpAnyH_take (i := 1) (v := ?_) rfl (by as_aux_lemma => kernel_rfl) (by as_aux_lemma => kernel_rfl) (by as_aux_lemma => kernel_rfl) (fun _ _ _ h => h) (Or.inl ⟨by rfl, ?_⟩) (by assumption) ?_
        rotate_left
        · (intro w hSw; (try dsimp only at hSw); go_simp); (try with_reducible rfl)
        simp only [List.getElem_toArray, List.getElem_cons_zero, List.getElem_cons_succ, Act.put, List.setIfInBounds_toArray, List.set_cons_zero, List.set_cons_succ]
        refine wpAnyH_take (i := 2) (v := undef) rfl (by as_aux_lemma => kernel_rfl) (by as_aux_lemma => kernel_rfl) (by as_aux_lemma => kernel_rfl) (fun _ _ _ h => h) (Or.inr ⟨by rfl, rfl⟩) (by assumption) ?_
        simp only [List.getElem_toArray, List.getElem_cons_zero, List.getElem_cons_succ, Act.put, List.setIfInBounds_toArray, List.set_cons_zero, List.set_cons_succ]
        refine wpAnyH_take (i := 3) (v := undef) rfl (by as_aux_lemma => kernel_rfl) (by as_aux_lemma => kernel_rfl) (by as_aux_lemma => kernel_rfl) (fun _ _ _ h => h) (Or.inr ⟨by rfl, rfl⟩) (by assumption) ?_
        simp only [List.getElem_toArray, List.getElem_cons_zero, List.getElem_cons_succ, Act.put, List.setIfInBounds_toArray, List.set_cons_zero, List.set_cons_succ]
        refine wpAnyH_take (i := 6) (v := undef) rfl (by as_aux_lemma => kernel_rfl) (by as_aux_lemma => kernel_rfl) (by as_aux_lemma => kernel_rfl) (fun _ _ _ h => h) (Or.inr ⟨by rfl, rfl⟩) (by assumption) ?_
        simp only [List.getElem_toArray, List.getElem_cons_zero, List.getElem_cons_succ, Act.put, List.setIfInBounds_toArray, List.set_cons_zero, List.set_cons_succ]
        refine wpAnyH_take (i := 4) (v := undef) rfl (by as_aux_lemma => kernel_rfl) (by as_aux_lemma => kernel_rfl) (by as_aux_lemma => kernel_rfl) (fun _ _ _ h => h) (Or.inr ⟨by rfl, rfl⟩) (by assumption) ?_
        simp only [List.getElem_toArray, List.getElem_cons_zero, List.getElem_cons_succ, Act.put, List.setIfInBounds_toArray, List.set_cons_zero, List.set_cons_succ]
        refine wpAnyH_take (i := 7) (v := undef) rfl (by as_aux_lemma => kernel_rfl) (by as_aux_lemma => kernel_rfl) (by as_aux_lemma => kernel_rfl) (fun _ _ _ h => h) (Or.inr ⟨by rfl, rfl⟩) (by assumption) ?_
        simp only [List.getElem_toArray, List.getElem_cons_zero, List.getElem_cons_succ, Act.put, List.setIfInBounds_toArray, List.set_cons_zero, List.set_cons_succ]
        refine wpAnyH_take (i := 5) (v := undef) rfl (by as_aux_lemma => kernel_rfl) (by as_aux_lemma => kernel_rfl) (by as_aux_lemma => kernel_rfl) (fun _ _ _ h => h) (Or.inr ⟨by rfl, rfl⟩) (by assumption) ?_
        simp only [List.getElem_toArray, List.getElem_cons_zero, List.getElem_cons_succ, Act.put, List.setIfInBounds_toArray, List.set_cons_zero, List.set_cons_succ]
        refine wpAnyH_take (i := 8) (v := undef) rfl (by as_aux_lemma => kernel_rfl) (by as_aux_lemma => kernel_rfl) (by as_aux_lemma => kernel_rfl) (fun _ _ _ h => h) (Or.inr ⟨by rfl, rfl⟩) (by assumption) ?_
        simp only [List.getElem_toArray, List.getElem_cons_zero, List.getElem_cons_succ, Act.put, List.setIfInBounds_toArray, List.set_cons_zero, List.set_cons_succ]
        refine wpAnyH_take (i := 9) (v := ?_) rfl (by as_aux_lemma => kernel_rfl) (by as_aux_lemma => kernel_rfl) (by as_aux_lemma => kernel_rfl) (fun _ _ _ h => h) (Or.inl ⟨by rfl, ?_⟩) (by assumption) ?_
        rotate_left
        · (intro w hSw; (try dsimp only at hSw); go_simp); (try with_reducible rfl)
        simp only [List.getElem_toArray, List.getElem_cons_zero, List.getElem_cons_succ, Act.put, List.setIfInBounds_toArray, List.set_cons_zero, List.set_cons_succ]
        refine wpAnyH_take (i := 10) (v := ?_) rfl (by as_aux_lemma => kernel_rfl) (by as_aux_lemma => kernel_rfl) (by as_aux_lemma => kernel_rfl) (fun _ _ _ h => h) (Or.inl ⟨by rfl, ?_⟩) (by assumption) ?_
        rotate_left
        · (intro w hSw; (try dsimp only at hSw); go_simp); (try with_reducible rfl)
        simp only [List.getElem_toArray, List.getElem_cons_zero, List.getElem_cons_succ, Act.put, List.setIfInBounds_toArray, List.set_cons_zero, List.set_cons_succ]
        refine wpAnyH_done (by as_aux_lemma => kernel_rfl) ?_ _
        have e1 : Ext wr wr.drew := (Ext.refl wr).drew
        replace im := im.ext e1
        replace Vm := Vm.ext e1
        replace Tr := Tr.ext e1
        replace dq := dq.ext e1
        replace hE := hE.trans e1
        clear e1 hHeld t0 t1 t2 v0 v1 v2 v3 v4 v5
        generalize wr.drew = wy at *
        obtain ⟨t0, t1, t2⟩ := id Tr
        obtain ⟨v0, v1, v2, v3, v4, v5⟩ := id Vm
        cases x2 with
        | true =>
          go_wp2
          refine wp_region_held_drew (S := (fun w' => (w'.cell? ⟨w3.heap.size, 0, none⟩ = some (.bool bim) ∧ w'.cell? ⟨w3.heap.size, 1, none⟩ = some (.slice Aim lim cim) ∧ w'.cell? ⟨w3.heap.size, 2, none⟩ = some (.int .i64 jim) ∧ w'.cell? ⟨w3.heap.size, 3, none⟩ = some (.bool bim') ∧ w'.cell? ⟨w3.heap.size, 4, none⟩ = some (.slice Aim' lim' cim') ∧ w'.cell? ⟨w3.heap.size, 5, none⟩ = some (.int .i64 jim')) ∧ (w'.cell? ⟨gl, j * 3, none⟩ = some (.bool bq) ∧ w'.cell? ⟨gl, j * 3 + 1, none⟩ = some (.slice Aq nq cq) ∧ w'.cell? ⟨gl, j * 3 + 2, none⟩ = some (.int .i64 eq)))) (by as_aux_lemma => kernel_rfl) ⟨bx6 (Vm.ext (Ext.refl wy).drew), tri3 (Tr.ext (Ext.refl wy).drew)⟩ (fun hHeld => ?_)
          refine wpAnyH_take (i := 0) (v := ?_) rfl (by as_aux_lemma => kernel_rfl) (by as_aux_lemma => kernel_rfl) (by as_aux_lemma => kernel_rfl) (fun _ _ _ h => h) (Or.inl ⟨by rfl, ?_⟩) (by assumption) ?_
          rotate_left
          · (intro w hSw; (try dsimp only at hSw); go_simp); (try with_reducible rfl)
          simp only [List.getElem_toArray, List.getElem_cons_zero, Act.put, List.setIfInBounds_toArray, List.set_cons_zero, List.set_cons_succ]
          refine wpAnyH_take (i := 1) (v := ?_) rfl (by as_aux_lemma => kernel_rfl) (by as_aux_lemma => kernel_rfl) (by as_aux_lemma => kernel_rfl) (fun _ _ _ h => h) (Or.inl ⟨by rfl, ?_⟩) (by assumption) ?_
          rotate_left
          · (intro w hSw; (try dsimp only at hSw); go_simp); (try with_reducible rfl)
          simp only [List.getElem_toArray, List.getElem_cons_zero, List.getElem_cons_succ, Act.put, List.setIfInBounds_toArray, List.set_cons_zero, List.set_cons_succ]
          refine wpAnyH_take (i := 2) (v := undef) rfl (by as_aux_lemma => kernel_rfl) (by as_aux_lemma => kernel_rfl) (by as_aux_lemma => kernel_rfl) (fun _ _ _ h => h) (Or.inr ⟨by rfl, rfl⟩) (by assumption) ?_
          simp only [List.getElem_toArray, List.getElem_cons_zero, List.getElem_cons_succ, Act.put, List.setIfInBounds_toArray, List.set_cons_zero, List.set_cons_succ]
          refine wpAnyH_take (i := 3) (v := undef) rfl (by as_aux_lemma => kernel_rfl) (by as_aux_lemma => kernel_rfl) (by as_aux_lemma => kernel_rfl) (fun _ _ _ h => h) (Or.inr ⟨by rfl, rfl⟩) (by assumption) ?_
          simp only [List.getElem_toArray, List.getElem_cons_zero, List.getElem_cons_succ, Act.put, List.setIfInBounds_toArray, List.set_cons_zero, List.set_cons_succ]
          refine wpAnyH_take (i := 6) (v := undef) rfl (by as_aux_lemma => kernel_rfl) (by as_aux_lemma => kernel_rfl) (by as_aux_lemma => kernel_rfl) (fun _ _ _ h => h) (Or.inr ⟨by rfl, rfl⟩) (by assumption) ?_
          simp only [List.getElem_toArray, List.getElem_cons_zero, List.getElem_cons_succ, Act.put, List.setIfInBounds_toArray, List.set_cons_zero, List.set_cons_succ]
          refine wpAnyH_take (i := 4) (v := undef) rfl (by as_aux_lemma => kernel_rfl) (by as_aux_lemma => kernel_rfl) (by as_aux_lemma => kernel_rfl) (fun _ _ _ h => h) (Or.inr ⟨by rfl, rfl⟩) (by assumption) ?_
          simp only [List.getElem_toArray, List.getElem_cons_zero, List.getElem_cons_succ, Act.put, List.setIfInBounds_toArray, List.set_cons_zero, List.set_cons_succ]
          refine wpAnyH_take (i := 7) (v := undef) rfl (by as_aux_lemma => kernel_rfl) (by as_aux_lemma => kernel_rfl) (by as_aux_lemma => kernel_rfl) (fun _ _ _ h => h) (Or.inr ⟨by rfl, rfl⟩) (by assumption) ?_
          simp only [List.getElem_toArray, List.getElem_cons_zero, List.getElem_cons_succ, Act.put, List.setIfInBounds_toArray, List.set_cons_zero, List.set_cons_succ]
          refine wpAnyH_take (i := 5) (v := undef) rfl (by as_aux_lemma => kernel_rfl) (by as_aux_lemma => kernel_rfl) (by as_aux_lemma => kernel_rfl) (fun _ _ _ h => h) (Or.inr ⟨by rfl, rfl⟩) (by assumption) ?_
          simp only [List.getElem_toArray, List.getElem_cons_zero, List.getElem_cons_succ, Act.put, List.setIfInBounds_toArray, List.set_cons_zero, List.set_cons_succ]
          refine wpAnyH_take (i := 8) (v := undef) rfl (by as_aux_lemma => kernel_rfl) (by as_aux_lemma => kernel_rfl) (by as_aux_lemma => kernel_rfl) (fun _ _ _ h => h) (Or.inr ⟨by rfl, rfl⟩) (by assumption) ?_
          simp only [List.getElem_toArray, List.getElem_cons_zero, List.getElem_cons_succ, Act.put, List.setIfInBounds_toArray, List.set_cons_zero, List.set_cons_succ]
          refine wpAnyH_take (i := 9) (v := ?_) rfl (by as_aux_lemma => kernel_rfl) (by as_aux_lemma => kernel_rfl) (by as_aux_lemma => kernel_rfl) (fun _ _ _ h => h) (Or.inl ⟨by rfl, ?_⟩) (by assumption) ?_
          rotate_left
          · (intro w hSw; (try dsimp only at hSw); go_simp); (try with_reducible rfl)
          simp only [List.getElem_toArray, List.getElem_cons_zero, List.getElem_cons_succ, Act.put, List.setIfInBounds_toArray, List.set_cons_zero, List.set_cons_succ]
          refine wpAnyH_take (i := 10) (v := ?_) rfl (by as_aux_lemma => kernel_rfl) (by as_aux_lemma => kernel_rfl) (by as_aux_lemma => kernel_rfl) (fun _ _ _ h => h) (Or.inl ⟨by rfl, ?_⟩) (by assumption) ?_
          rotate_left
          · (intro w hSw; (try dsimp only at hSw); go_simp); (try with_reducible rfl)
          simp only [List.getElem_toArray, List.getElem_cons_zero, List.getElem_cons_succ, Act.put, List.setIfInBounds_toArray, List.set_cons_zero, List.set_cons_succ]
          refine wpAnyH_done (by as_aux_lemma => kernel_rfl) ?_ _
          go_wp2
          go_roundw
          case rel => exact ⟨j + 1, by omega, by go_num, by rw [AL.out]; simp, by rw [AH.out]; simp, hE.trans (Ext.refl wy).drew⟩
          case measure => simp [intOf]; omega
        | false =>
          go_wp2
          refine wp_region_held_drew (S := (fun w' => (w'.cell? ⟨w3.heap.size, 0, none⟩ = some (.bool bim) ∧ w'.cell? ⟨w3.heap.size, 1, none⟩ = some (.slice Aim lim cim) ∧ w'.cell? ⟨w3.heap.size, 2, none⟩ = some (.int .i64 jim) ∧ w'.cell? ⟨w3.heap.size, 3, none⟩ = some (.bool bim') ∧ w'.cell? ⟨w3.heap.size, 4, none⟩ = some (.slice Aim' lim' cim') ∧ w'.cell? ⟨w3.heap.size, 5, none⟩ = some (.int .i64 jim')) ∧ (w'.cell? ⟨gl, j * 3, none⟩ = some (.bool bq) ∧ w'.cell? ⟨gl, j * 3 + 1, none⟩ = some (.slice Aq nq cq) ∧ w'.cell? ⟨gl, j * 3 + 2, none⟩ = some (.int .i64 eq)))) (by as_aux_lemma => kernel_rfl) ⟨bx6 (Vm.ext (Ext.refl wy).drew), tri3 (Tr.ext (Ext.refl wy).drew)⟩ (fun hHeld => ?_)
          refine wpAnyH_take (i := 0) (v := ?_) rfl (by as_aux_lemma => kernel_rfl) (by as_aux_lemma => kernel_rfl) (by as_aux_lemma => kernel_rfl) (fun _ _ _ h => h) (Or.inl ⟨by rfl, ?_⟩) (by assumption) ?_
          rotate_left
          · (intro w hSw; (try dsimp only at hSw); go_simp); (try with_reducible rfl)
          simp only [List.getElem_toArray, List.getElem_cons_zero, Act.put, List.setIfInBounds_toArray, List.set_cons_zero, List.set_cons_succ]
          refine wpAnyH_take (i := 1) (v := ?_) rfl (by as_aux_lemma => kernel_rfl) (by as_aux_lemma => kernel_rfl) (by as_aux_lemma => kernel_rfl) (fun _ _ _ h => h) (Or.inl ⟨by rfl, ?_⟩) (by assumption) ?_
          rotate_left
          · (intro w hSw; (try dsimp only at hSw); go_simp); (try with_reducible rfl)
          simp only [List.getElem_toArray, List.getElem_cons_zero, List.getElem_cons_succ, Act.put, List.setIfInBounds_toArray, List.set_cons_zero, List.set_cons_succ]
          refine wpAnyH_take (i := 2) (v := ?_) rfl (by as_aux_lemma => kernel_rfl) (by as_aux_lemma => kernel_rfl) (by as_aux_lemma => kernel_rfl) (fun _ _ _ h => h) (Or.inl ⟨by rfl, ?_⟩) (by assumption) ?_
          rotate_left
          · (intro w hSw; (try dsimp only at hSw); go_simp); (try with_reducible rfl)
          simp only [List.getElem_toArray, List.getElem_cons_zero, List.getElem_cons_succ, Act.put, List.setIfInBounds_toArray, List.set_cons_zero, List.set_cons_succ]
          refine wpAnyH_take (i := 3) (v := ?_) rfl (by as_aux_lemma => kernel_rfl) (by as_aux_lemma => kernel_rfl) (by as_aux_lemma => kernel_rfl) (fun _ _ _ h => h) (Or.inl ⟨by rfl, ?_⟩) (by assumption) ?_
          rotate_left
          · (intro w hSw; (try dsimp only at hSw); go_simp); (try with_reducible rfl)
          simp only [List.getElem_toArray, List.getElem_cons_zero, List.getElem_cons_succ, Act.put, List.setIfInBounds_toArray, List.set_cons_zero, List.set_cons_succ]
          refine wpAnyH_take (i := 6) (v := ?_) rfl (by as_aux_lemma => kernel_rfl) (by as_aux_lemma => kernel_rfl) (by as_aux_lemma => kernel_rfl) (fun _ _ _ h => h) (Or.inl ⟨by rfl, ?_⟩) (by assumption) ?_
          rotate_left
          · (intro w hSw; (try dsimp only at hSw); go_simp); (try with_reducible rfl)
          simp only [List.getElem_toArray, List.getElem_cons_zero, List.getElem_cons_succ, Act.put, List.setIfInBounds_toArray, List.set_cons_zero, List.set_cons_succ]
          refine wpAnyH_take (i := 4) (v := ?_) rfl (by as_aux_lemma => kernel_rfl) (by as_aux_lemma => kernel_rfl) (by as_aux_lemma => kernel_rfl) (fun _ _ _ h => h) (Or.inl ⟨by rfl, ?_⟩) (by assumption) ?_
          rotate_left
          · (intro w hSw; (try dsimp only at hSw); go_simp); (try with_reducible rfl)
          simp only [List.getElem_toArray, List.getElem_cons_zero, List.getElem_cons_succ, Act.put, List.setIfInBounds_toArray, List.set_cons_zero, List.set_cons_succ]
          refine wpAnyH_take (i := 7) (v := ?_) rfl (by as_aux_lemma => kernel_rfl) (by as_aux_lemma => kernel_rfl) (by as_aux_lemma => kernel_rfl) (fun _ _ _ h => h) (Or.inl ⟨by rfl, ?_⟩) (by assumption) ?_
          rotate_left
          · (intro w hSw; (try dsimp only at hSw); go_simp); (try with_reducible rfl)
          simp only [List.getElem_toArray, List.getElem_cons_zero, List.getElem_cons_succ, Act.put, List.setIfInBounds_toArray, List.set_cons_zero, List.set_cons_succ]
          refine wpAnyH_take (i := 5) (v := ?_) rfl (by as_aux_lemma => kernel_rfl) (by as_aux_lemma => kernel_rfl) (by as_aux_lemma => kernel_rfl) (fun _ _ _ h => h) (Or.inl ⟨by rfl, ?_⟩) (by assumption) ?_
          rotate_left
          · (intro w hSw; (try dsimp only at hSw); go_simp); (try with_reducible rfl)
          simp only [List.getElem_toArray, List.getElem_cons_zero, List.getElem_cons_succ, Act.put, List.setIfInBounds_toArray, List.set_cons_zero, List.set_cons_succ]
          refine wpAnyH_ready (rs := [8]) (by as_aux_lemma => kernel_rfl) (by simp) ?_
          refine AllReadyH.cons rfl (fun K hK => ?_) AllReadyH.nil
          go_simp
          refine (rsame_lit _ _ _ (pp j) H s2 Hy.out (dq.ext (Ext.refl wy).drew) (im.ext (Ext.refl wy).drew).hi).mono ?_
          rintro _ uy1 ⟨rfl, euy1⟩
          have Fy1 : Ext wy uy1 := (Ext.refl wy).drew.trans euy1
          refine hK.out _ _ ⟨bx6 (Vm.ext Fy1), tri3 (Tr.ext Fy1)⟩ (fun hHeld => ?_)
          clear hK K euy1
          refine wpAnyH_take (i := 9) (v := ?_) rfl (by as_aux_lemma => kernel_rfl) (by as_aux_lemma => kernel_rfl) (by as_aux_lemma => kernel_rfl) (fun _ _ _ h => h) (Or.inl ⟨by rfl, ?_⟩) (by assumption) ?_
          rotate_left
          · (intro w hSw; (try dsimp only at hSw); go_simp); (try with_reducible rfl)
          simp only [List.getElem_toArray, List.getElem_cons_zero, List.getElem_cons_succ, Act.put, List.setIfInBounds_toArray, List.set_cons_zero, List.set_cons_succ]
          refine wpAnyH_take (i := 10) (v := ?_) rfl (by as_aux_lemma => kernel_rfl) (by as_aux_lemma => kernel_rfl) (by as_aux_lemma => kernel_rfl) (fun _ _ _ h => h) (Or.inl ⟨by rfl, ?_⟩) (by assumption) ?_
          rotate_left
          · (intro w hSw; (try dsimp only at hSw); go_simp); (try with_reducible rfl)
          simp only [List.getElem_toArray, List.getElem_cons_zero, List.getElem_cons_succ, Act.put, List.setIfInBounds_toArray, List.set_cons_zero, List.set_cons_succ]
          refine wpAnyH_done (by as_aux_lemma => kernel_rfl) ?_ _
          go_wp2
          go_roundw
          case rel => exact ⟨j + 1, by omega, by go_num, by rw [AL.out]; simp, by rw [AH.out]; simp, hE.trans Fy1⟩
          case measure => simp [intOf]; omega
      | false =>
        go_wp2
        refine wp_region_held_drew (S := (fun w' => (w'.cell? ⟨w3.heap.size, 0, none⟩ = some (.bool bim) ∧ w'.cell? ⟨w3.heap.size, 1, none⟩ = some (.slice Aim lim cim) ∧ w'.cell? ⟨w3.heap.size, 2, none⟩ = some (.int .i64 jim) ∧ w'.cell? ⟨w3.heap.size, 3, none⟩ = some (.bool bim') ∧ w'.cell? ⟨w3.heap.size, 4, none⟩ = some (.slice Aim' lim' cim') ∧ w'.cell? ⟨w3.heap.size, 5, none⟩ = some (.int .i64 jim')) ∧ (w'.cell? ⟨gl, j * 3, none⟩ = some (.bool bq) ∧ w'.cell? ⟨gl, j * 3 + 1, none⟩ = some (.slice Aq nq cq) ∧ w'.cell? ⟨gl, j * 3 + 2, none⟩ = some (.int .i64 eq)))) (by as_aux_lemma => kernel_rfl) ⟨bx6 (Vm.ext (Ext.refl wr).drew), tri3 (Tr.ext (Ext.refl wr).drew)⟩ (fun hHeld => ?_)
        refine wpAnyH_take (i := 0) (v := ?_) rfl (by as_aux_lemma => kernel_rfl) (by as_aux_lemma => kernel_rfl) (by as_aux_lemma => kernel_rfl) (fun _ _ _ h => h) (Or.inl ⟨by rfl, ?_⟩) (by assumption) ?_
        rotate_left
        · (intro w hSw; (try dsimp only at hSw); go_simp); (try with_reducible rfl)
        simp only [List.getElem_toArray, List.getElem_cons_zero, Act.put, List.setIfInBounds_toArray, List.set_cons_zero, List.set_cons_succ]
        refine wpAnyH_take (i := 1) (v := ?_) rfl (by as_aux_lemma => kernel_rfl) (by as_aux_lemma => kernel_rfl) (by as_aux_lemma => kernel_rfl) (fun _ _ _ h => h) (Or.inl ⟨by rfl, ?_⟩) (by assumption) ?_
        rotate_left
        · (intro w hSw; (try dsimp only at hSw); go_simp); (try with_reducible rfl)
        simp only [List.getElem_toArray, List.getElem_cons_zero, List.getElem_cons_succ, Act.put, List.setIfInBounds_toArray, List.set_cons_zero, List.set_cons_succ]
        refine wpAnyH_take (i := 2) (v := ?_) rfl (by as_aux_lemma => kernel_rfl) (by as_aux_lemma => kernel_rfl) (by as_aux_lemma => kernel_rfl) (fun _ _ _ h => h) (Or.inl ⟨by rfl, ?_⟩) (by assumption) ?_
        rotate_left
        · (intro w hSw; (try dsimp only at hSw); go_simp); (try with_reducible rfl)
        simp only [List.getElem_toArray, List.getElem_cons_zero, List.getElem_cons_succ, Act.put, List.setIfInBounds_toArray, List.set_cons_zero, List.set_cons_succ]
        refine wpAnyH_take (i := 3) (v := ?_) rfl (by as_aux_lemma => kernel_rfl) (by as_aux_lemma => kernel_rfl) (by as_aux_lemma => kernel_rfl) (fun _ _ _ h => h) (Or.inl ⟨by rfl, ?_⟩) (by assumption) ?_
        rotate_left
        · (intro w hSw; (try dsimp only at hSw); go_simp); (try with_reducible rfl)
        simp only [List.getElem_toArray, List.getElem_cons_zero, List.getElem_cons_succ, Act.put, List.setIfInBounds_toArray, List.set_cons_zero, List.set_cons_succ]
        refine wpAnyH_take (i := 6) (v := ?_) rfl (by as_aux_lemma => kernel_rfl) (by as_aux_lemma => kernel_rfl) (by as_aux_lemma => kernel_rfl) (fun _ _ _ h => h) (Or.inl ⟨by rfl, ?_⟩) (by assumption) ?_
        rotate_left
        · (intro w hSw; (try dsimp only at hSw); go_simp); (try with_reducible rfl)
        simp only [List.getElem_toArray, List.getElem_cons_zero, List.getElem_cons_succ, Act.put, List.setIfInBounds_toArray, List.set_cons_zero, List.set_cons_succ]
        refine wpAnyH_take (i := 4) (v := ?_) rfl (by as_aux_lemma => kernel_rfl) (by as_aux_lemma => kernel_rfl) (by as_aux_lemma => kernel_rfl) (fun _ _ _ h => h) (Or.inl ⟨by rfl, ?_⟩) (by assumption) ?_
        rotate_left
        · (intro w hSw; (try dsimp only at hSw); go_simp); (try with_reducible rfl)
        simp only [List.getElem_toArray, List.getElem_cons_zero, List.getElem_cons_succ, Act.put, List.setIfInBounds_toArray, List.set_cons_zero, List.set_cons_succ]
        refine wpAnyH_take (i := 7) (v := ?_) rfl (by as_aux_lemma => kernel_rfl) (by as_aux_lemma => kernel_rfl) (by as_aux_lemma => kernel_rfl) (fun _ _ _ h => h) (Or.inl ⟨by rfl, ?_⟩) (by assumption) ?_
        rotate_left
        · (intro w hSw; (try dsimp only at hSw); go_simp); (try with_reducible rfl)
        simp only [List.getElem_toArray, List.getElem_cons_zero, List.getElem_cons_succ, Act.put, List.setIfInBounds_toArray, List.set_cons_zero, List.set_cons_succ]
        refine wpAnyH_take (i := 5) (v := ?_) rfl (by as_aux_lemma => kernel_rfl) (by as_aux_lemma => kernel_rfl) (by as_aux_lemma => kernel_rfl) (fun _ _ _ h => h) (Or.inl ⟨by rfl, ?_⟩) (by assumption) ?_
        rotate_left
        · (intro w hSw; (try dsimp only at hSw); go_simp); (try with_reducible rfl)
        simp only [List.getElem_toArray, List.getElem_cons_zero, List.getElem_cons_succ, Act.put, List.setIfInBounds_toArray, List.set_cons_zero, List.set_cons_succ]
        refine wpAnyH_ready (rs := [8]) (by as_aux_lemma => kernel_rfl) (by simp) ?_
        refine AllReadyH.cons rfl (fun K hK => ?_) AllReadyH.nil
        go_simp
        refine (rsame_lit _ _ _ (pp j) L s1 Hx.out (dq.ext (Ext.refl wr).drew) (im.ext (Ext.refl wr).drew).lo).mono ?_
        rintro _ ux1 ⟨rfl, eux1⟩
        have Fx1 : Ext wr ux1 := (Ext.refl wr).drew.trans eux1
        refine hK.out _ _ ⟨bx6 (Vm.ext Fx1), tri3 (Tr.ext Fx1)⟩ (fun hHeld => ?_)
        clear hK K eux1
        refine wpAnyH_take (i := 9) (v := ?_) rfl (by as_aux_lemma => kernel_rfl) (by as_aux_lemma => kernel_rfl) (by as_aux_lemma => kernel_rfl) (fun _ _ _ h => h) (Or.inl ⟨by rfl, ?_⟩) (by assumption) ?_
        rotate_left
        · (intro w hSw; (try dsimp only at hSw); go_simp); (try with_reducible rfl)
        simp only [List.getElem_toArray, List.getElem_cons_zero, List.getElem_cons_succ, Act.put, List.setIfInBounds_toArray, List.set_cons_zero, List.set_cons_succ]
        refine wpAnyH_take (i := 10) (v := ?_) rfl (by as_aux_lemma => kernel_rfl) (by as_aux_lemma => kernel_rfl) (by as_aux_lemma => kernel_rfl) (fun _ _ _ h => h) (Or.inl ⟨by rfl, ?_⟩) (by assumption) ?_
        rotate_left
        · (intro w hSw; (try dsimp only at hSw); go_simp); (try with_reducible rfl)
        simp only [List.getElem_toArray, List.getElem_cons_zero, List.getElem_cons_succ, Act.put, List.setIfInBounds_toArray, List.set_cons_zero, List.set_cons_succ]
        refine wpAnyH_done (by as_aux_lemma => kernel_rfl) ?_ _
        have e1 : Ext wr ux1 := Fx1
        replace im := im.ext e1
        replace Vm := Vm.ext e1
        replace Tr := Tr.ext e1
        replace dq := dq.ext e1
        replace hE := hE.trans e1
        clear e1 hHeld Fx1 t0 t1 t2 v0 v1 v2 v3 v4 v5
        obtain ⟨t0, t1, t2⟩ := id Tr
        obtain ⟨v0, v1, v2, v3, v4, v5⟩ := id Vm
        cases x2 with
        | true =>
          go_wp2
          refine wp_region_held_drew (S := (fun w' => (w'.cell? ⟨w3.heap.size, 0, none⟩ = some (.bool bim) ∧ w'.cell? ⟨w3.heap.size, 1, none⟩ = some (.slice Aim lim cim) ∧ w'.cell? ⟨w3.heap.size, 2, none⟩ = some (.int .i64 jim) ∧ w'.cell? ⟨w3.heap.size, 3, none⟩ = some (.bool bim') ∧ w'.cell? ⟨w3.heap.size, 4, none⟩ = some (.slice Aim' lim' cim') ∧ w'.cell? ⟨w3.heap.size, 5, none⟩ = some (.int .i64 jim')) ∧ (w'.cell? ⟨gl, j * 3, none⟩ = some (.bool bq) ∧ w'.cell? ⟨gl, j * 3 + 1, none⟩ = some (.slice Aq nq cq) ∧ w'.cell? ⟨gl, j * 3 + 2, none⟩ = some (.int .i64 eq)))) (by as_aux_lemma => kernel_rfl) ⟨bx6 (Vm.ext (Ext.refl ux1).drew), tri3 (Tr.ext (Ext.refl ux1).drew)⟩ (fun hHeld => ?_)
          refine wpAnyH_take (i := 0) (v := ?_) rfl (by as_aux_lemma => kernel_rfl) (by as_aux_lemma => kernel_rfl) (by as_aux_lemma => kernel_rfl) (fun _ _ _ h => h) (Or.inl ⟨by rfl, ?_⟩) (by assumption) ?_
          rotate_left
          · (intro w hSw; (try dsimp only at hSw); go_simp); (try with_reducible rfl)
          simp only [List.getElem_toArray, List.getElem_cons_zero, Act.put, List.setIfInBounds_toArray, List.set_cons_zero, List.set_cons_succ]
          refine wpAnyH_take (i := 1) (v := ?_) rfl (by as_aux_lemma => kernel_rfl) (by as_aux_lemma => kernel_rfl) (by as_aux_lemma => kernel_rfl) (fun _ _ _ h => h) (Or.inl ⟨by rfl, ?_⟩) (by assumption) ?_
          rotate_left
          · (intro w hSw; (try dsimp only at hSw); go_simp); (try with_reducible rfl)
          simp only [List.getElem_toArray, List.getElem_cons_zero, List.getElem_cons_succ, Act.put, List.setIfInBounds_toArray, List.set_cons_zero, List.set_cons_succ]
          refine wpAnyH_take (i := 2) (v := undef) rfl (by as_aux_lemma => kernel_rfl) (by as_aux_lemma => kernel_rfl) (by as_aux_lemma => kernel_rfl) (fun _ _ _ h => h) (Or.inr ⟨by rfl, rfl⟩) (by assumption) ?_
          simp only [List.getElem_toArray, List.getElem_cons_zero, List.getElem_cons_succ, Act.put, List.setIfInBounds_toArray, List.set_cons_zero, List.set_cons_succ]
          refine wpAnyH_take (i := 3) (v := undef) rfl (by as_aux_lemma => kernel_rfl) (by as_aux_lemma => kernel_rfl) (by as_aux_lemma => kernel_rfl) (fun _ _ _ h => h) (Or.inr ⟨by rfl, rfl⟩) (by assumption) ?_
          simp only [List.getElem_toArray, List.getElem_cons_zero, List.getElem_cons_succ, Act.put, List.setIfInBounds_toArray, List.set_cons_zero, List.set_cons_succ]
          refine wpAnyH_take (i := 6) (v := undef) rfl (by as_aux_lemma => kernel_rfl) (by as_aux_lemma => kernel_rfl) (by as_aux_lemma => kernel_rfl) (fun _ _ _ h => h) (Or.inr ⟨by rfl, rfl⟩) (by assumption) ?_
          simp only [List.getElem_toArray, List.getElem_cons_zero, List.getElem_cons_succ, Act.put, List.setIfInBounds_toArray, List.set_cons_zero, List.set_cons_succ]
          refine wpAnyH_take (i := 4) (v := undef) rfl (by as_aux_lemma => kernel_rfl) (by as_aux_lemma => kernel_rfl) (by as_aux_lemma => kernel_rfl) (fun _ _ _ h => h) (Or.inr ⟨by rfl, rfl⟩) (by assumption) ?_
          simp only [List.getElem_toArray, List.getElem_cons_zero, List.getElem_cons_succ, Act.put, List.setIfInBounds_toArray, List.set_cons_zero, List.set_cons_succ]
          refine wpAnyH_take (i := 7) (v := undef) rfl (by as_aux_lemma => kernel_rfl) (by as_aux_lemma => kernel_rfl) (by as_aux_lemma => kernel_rfl) (fun _ _ _ h => h) (Or.inr ⟨by rfl, rfl⟩) (by assumption) ?_
          simp only [List.getElem_toArray, List.getElem_cons_zero, List.getElem_cons_succ, Act.put, List.setIfInBounds_toArray, List.set_cons_zero, List.set_cons_succ]
          refine wpAnyH_take (i := 5) (v := undef) rfl (by as_aux_lemma => kernel_rfl) (by as_aux_lemma => kernel_rfl) (by as_aux_lemma => kernel_rfl) (fun _ _ _ h => h) (Or.inr ⟨by rfl, rfl⟩) (by assumption) ?_
          simp only [List.getElem_toArray, List.getElem_cons_zero, List.getElem_cons_succ, Act.put, List.setIfInBounds_toArray, List.set_cons_zero, List.set_cons_succ]
          refine wpAnyH_take (i := 8) (v := undef) rfl (by as_aux_lemma => kernel_rfl) (by as_aux_lemma => kernel_rfl) (by as_aux_lemma => kernel_rfl) (fun _ _ _ h => h) (Or.inr ⟨by rfl, rfl⟩) (by assumption) ?_
          simp only [List.getElem_toArray, List.getElem_cons_zero, List.getElem_cons_succ, Act.put, List.setIfInBounds_toArray, List.set_cons_zero, List.set_cons_succ]
          refine wpAnyH_take (i := 9) (v := ?_) rfl (by as_aux_lemma => kernel_rfl) (by as_aux_lemma => kernel_rfl) (by as_aux_lemma => kernel_rfl) (fun _ _ _ h => h) (Or.inl ⟨by rfl, ?_⟩) (by assumption) ?_
          rotate_left
          · (intro w hSw; (try dsimp only at hSw); go_simp); (try with_reducible rfl)
          simp only [List.getElem_toArray, List.getElem_cons_zero, List.getElem_cons_succ, Act.put, List.setIfInBounds_toArray, List.set_cons_zero, List.set_cons_succ]
          refine wpAnyH_take (i := 10) (v := ?_) rfl (by as_aux_lemma => kernel_rfl) (by as_aux_lemma => kernel_rfl) (by as_aux_lemma => kernel_rfl) (fun _ _ _ h => h) (Or.inl ⟨by rfl, ?_⟩) (by assumption) ?_
          rotate_left
          · (intro w hSw; (try dsimp only at hSw); go_simp); (try with_reducible rfl)
          simp only [List.getElem_toArray, List.getElem_cons_zero, List.getElem_cons_succ, Act.put, List.setIfInBounds_toArray, List.set_cons_zero, List.set_cons_succ]
          refine wpAnyH_done (by as_aux_lemma => kernel_rfl) ?_ _
          go_wp2
          go_roundw
          case rel => exact ⟨j + 1, by omega, by go_num, by rw [AL.out]; simp, by rw [AH.out]; simp, hE.trans (Ext.refl ux1).drew⟩
          case measure => simp [intOf]; omega
        | false =>
          go_wp2
          refine wp_region_held_drew (S := (fun w' => (w'.cell? ⟨w3.heap.size, 0, none⟩ = some (.bool bim) ∧ w'.cell? ⟨w3.heap.size, 1, none⟩ = some (.slice Aim lim cim) ∧ w'.cell? ⟨w3.heap.size, 2, none⟩ = some (.int .i64 jim) ∧ w'.cell? ⟨w3.heap.size, 3, none⟩ = some (.bool bim') ∧ w'.cell? ⟨w3.heap.size, 4, none⟩ = some (.slice Aim' lim' cim') ∧ w'.cell? ⟨w3.heap.size, 5, none⟩ = some (.int .i64 jim')) ∧ (w'.cell? ⟨gl, j * 3, none⟩ = some (.bool bq) ∧ w'.cell? ⟨gl, j * 3 + 1, none⟩ = some (.slice Aq nq cq) ∧ w'.cell? ⟨gl, j * 3 + 2, none⟩ = some (.int .i64 eq)))) (by as_aux_lemma => kernel_rfl) ⟨bx6 (Vm.ext (Ext.refl ux1).drew), tri3 (Tr.ext (Ext.refl ux1).drew)⟩ (fun hHeld => ?_)
          refine wpAnyH_take (i := 0) (v := ?_) rfl (by as_aux_lemma => kernel_rfl) (by as_aux_lemma => kernel_rfl) (by as_aux_lemma => kernel_rfl) (fun _ _ _ h => h) (Or.inl ⟨by rfl, ?_⟩) (by assumption) ?_
          rotate_left
          · (intro w hSw; (try dsimp only at hSw); go_simp); (try with_reducible rfl)
          simp only [List.getElem_toArray, List.getElem_cons_zero, Act.put, List.setIfInBounds_toArray, List.set_cons_zero, List.set_cons_succ]
          refine wpAnyH_take (i := 1) (v := ?_) rfl (by as_aux_lemma => kernel_rfl) (by as_aux_lemma => kernel_rfl) (by as_aux_lemma => kernel_rfl) (fun _ _ _ h => h) (Or.inl ⟨by rfl, ?_⟩) (by assumption) ?_
          rotate_left
          · (intro w hSw; (try dsimp only at hSw); go_simp); (try with_reducible rfl)
          simp only [List.getElem_toArray, List.getElem_cons_zero, List.getElem_cons_succ, Act.put, List.setIfInBounds_toArray, List.set_cons_zero, List.set_cons_succ]
          refine wpAnyH_take (i := 2) (v := ?_) rfl (by as_aux_lemma => kernel_rfl) (by as_aux_lemma => kernel_rfl) (by as_aux_lemma => kernel_rfl) (fun _ _ _ h => h) (Or.inl ⟨by rfl, ?_⟩) (by assumption) ?_
          rotate_left
          · (intro w hSw; (try dsimp only at hSw); go_simp); (try with_reducible rfl)
          simp only [List.getElem_toArray, List.getElem_cons_zero, List.getElem_cons_succ, Act.put, List.setIfInBounds_toArray, List.set_cons_zero, List.set_cons_succ]
          refine wpAnyH_take (i := 3) (v := ?_) rfl (by as_aux_lemma => kernel_rfl) (by as_aux_lemma => kernel_rfl) (by as_aux_lemma => kernel_rfl) (fun _ _ _ h => h) (Or.inl ⟨by rfl, ?_⟩) (by assumption) ?_
          rotate_left
          · (intro w hSw; (try dsimp only at hSw); go_simp); (try with_reducible rfl)
          simp only [List.getElem_toArray, List.getElem_cons_zero, List.getElem_cons_succ, Act.put, List.setIfInBounds_toArray, List.set_cons_zero, List.set_cons_succ]
          refine wpAnyH_take (i := 6) (v := ?_) rfl (by as_aux_lemma => kernel_rfl) (by as_aux_lemma => kernel_rfl) (by as_aux_lemma => kernel_rfl) (fun _ _ _ h => h) (Or.inl ⟨by rfl, ?_⟩) (by assumption) ?_
          rotate_left
          · (intro w hSw; (try dsimp only at hSw); go_simp); (try with_reducible rfl)
          simp only [List.getElem_toArray, List.getElem_cons_zero, List.getElem_cons_succ, Act.put, List.setIfInBounds_toArray, List.set_cons_zero, List.set_cons_succ]
          refine wpAnyH_take (i := 4) (v := ?_) rfl (by as_aux_lemma => kernel_rfl) (by as_aux_lemma => kernel_rfl) (by as_aux_lemma => kernel_rfl) (fun _ _ _ h => h) (Or.inl ⟨by rfl, ?_⟩) (by assumption) ?_
          rotate_left
          · (intro w hSw; (try dsimp only at hSw); go_simp); (try with_reducible rfl)
          simp only [List.getElem_toArray, List.getElem_cons_zero, List.getElem_cons_succ, Act.put, List.setIfInBounds_toArray, List.set_cons_zero, List.set_cons_succ]
          refine wpAnyH_take (i := 7) (v := ?_) rfl (by as_aux_lemma => kernel_rfl) (by as_aux_lemma => kernel_rfl) (by as_aux_lemma => kernel_rfl) (fun _ _ _ h => h) (Or.inl ⟨by rfl, ?_⟩) (by assumption) ?_
          rotate_left
          · (intro w hSw; (try dsimp only at hSw); go_simp); (try with_reducible rfl)
          simp only [List.getElem_toArray, List.getElem_cons_zero, List.getElem_cons_succ, Act.put, List.setIfInBounds_toArray, List.set_cons_zero, List.set_cons_succ]
          refine wpAnyH_take (i := 5) (v := ?_) rfl (by as_aux_lemma => kernel_rfl) (by as_aux_lemma => kernel_rfl) (by as_aux_lemma => kernel_rfl) (fun _ _ _ h => h) (Or.inl ⟨by rfl, ?_⟩) (by assumption) ?_
          rotate_left
          · (intro w hSw; (try dsimp only at hSw); go_simp); (try with_reducible rfl)
          simp only [List.getElem_toArray, List.getElem_cons_zero, List.getElem_cons_succ, Act.put, List.setIfInBounds_toArray, List.set_cons_zero, List.set_cons_succ]
          refine wpAnyH_ready (rs := [8]) (by as_aux_lemma => kernel_rfl) (by simp) ?_
          refine AllReadyH.cons rfl (fun K hK => ?_) AllReadyH.nil
          go_simp
          refine (rsame_lit _ _ _ (pp j) H s2 Hy.out (dq.ext (Ext.refl ux1).drew) (im.ext (Ext.refl ux1).drew).hi).mono ?_
          rintro _ uy1 ⟨rfl, euy1⟩
          have Fy1 : Ext ux1 uy1 := (Ext.refl ux1).drew.trans euy1
          refine hK.out _ _ ⟨bx6 (Vm.ext Fy1), tri3 (Tr.ext Fy1)⟩ (fun hHeld => ?_)
          clear hK K euy1
          refine wpAnyH_take (i := 9) (v := ?_) rfl (by as_aux_lemma => kernel_rfl) (by as_aux_lemma => kernel_rfl) (by as_aux_lemma => kernel_rfl) (fun _ _ _ h => h) (Or.inl ⟨by rfl, ?_⟩) (by assumption) ?_
          rotate_left
          · (intro w hSw; (try dsimp only at hSw); go_simp); (try with_reducible rfl)
          simp only [List.getElem_toArray, List.getElem_cons_zero, List.getElem_cons_succ, Act.put, List.setIfInBounds_toArray, List.set_cons_zero, List.set_cons_succ]
          refine wpAnyH_take (i := 10) (v := ?_) rfl (by as_aux_lemma => kernel_rfl) (by as_aux_lemma => kernel_rfl) (by as_aux_lemma => kernel_rfl) (fun _ _ _ h => h) (Or.inl ⟨by rfl, ?_⟩) (by assumption) ?_
          rotate_left
          · (intro w hSw; (try dsimp only at hSw); go_simp); (try with_reducible rfl)
          simp only [List.getElem_toArray, List.getElem_cons_zero, List.getElem_cons_succ, Act.put, List.setIfInBounds_toArray, List.set_cons_zero, List.set_cons_succ]
          refine wpAnyH_done (by as_aux_lemma => kernel_rfl) ?_ _
          go_wp2
          go_roundw
          case rel => exact ⟨j + 1, by omega, by go_num, by rw [AL.out]; simp, by rw [AH.out]; simp, hE.trans Fy1⟩
          case measure => simp [intOf]; omega
    · obtain rfl : j = 4 := by omega
      rw [HA.out.1, HA.out.2]
      replace T := T.ext hE
      replace na := na.ext hE
      replace nb := nb.ext hE
      replace im := im.ext hE
      replace Ba := Ba.ext hE
      replace Bb := Bb.ext hE
      replace Vm := Vm.ext hE
      replace E5 := E5.trans hE
      clear hE El
      obtain ⟨Ba_0, Ba_1, Ba_2, Ba_3, Ba_4, Ba_5⟩ := id Ba
      have Ba_l := World.block_lt_of_cell? _ _ Ba_0
      obtain ⟨Bb_0, Bb_1, Bb_2, Bb_3, Bb_4, Bb_5⟩ := id Bb
      have Bb_l := World.block_lt_of_cell? _ _ Bb_0
      go_wp2_with fail
      refine (iadd_any _ _ _ la ha lb hb 200 392 na nb rla rha rlb rhb (by omega) T).mono ?_
      rintro _ w54 ⟨v54, rfl, is, f54⟩
      clear Ba_0 Ba_1 Ba_2 Ba_3 Ba_4 Ba_5 Ba_l Bb_0 Bb_1 Bb_2 Bb_3 Bb_4 Bb_5 Bb_l
      have e54 : Ext wr w54 := (Ext.refl wr).trans f54
      replace T := T.ext e54
      replace na := na.ext e54
      replace nb := nb.ext e54
      replace im := im.ext e54
      replace Ba := Ba.ext e54
      replace Bb := Bb.ext e54
      replace Vm := Vm.ext e54
      have E54 : Ext w w54 := E5.trans e54
      clear e54 f54 E5
      obtain ⟨bis, Ais, lis, cis, jis, bis', Ais', lis', cis', jis', rfl, is_l, is_h⟩ := is
      have is := In.mk is_l is_h
      clear is_l is_h
      have q1 := rla.add rlb
      have q2 := rha.add rhb
      have w1 : Rg 200 393 (ha + -la) := rha.add rla.neg
      have w2 : Rg 200 393 (hb + -lb) := rhb.add rlb.neg
      have HQ := Lib.hid (And.intro (show (ha + -la) + (hb + -lb) = (ha + hb) + -(la + lb) by grind) (And.intro (show -(-la) = la by grind) (show -(-ha) = ha by grind)))
      go_wp2
      try simp only [List.append_eq, List.cons_append, List.nil_append]
      have Vs : Bx (w54.alloc (.cells #[.bool bis, .slice Ais lis cis, .int .i64 jis, .bool bis', .slice Ais' lis' cis', .int .i64 jis'] 26)) w54.heap.size (.bool bis) (.slice Ais lis cis) (.int .i64 jis) (.bool bis') (.slice Ais' lis' cis') (.int .i64 jis') := Bx.at (Ext.refl _) rfl
      have eV8 : Ext w54 (w54.alloc (.cells #[.bool bis, .slice Ais lis cis, .int .i64 jis, .bool bis', .slice Ais' lis' cis', .int .i64 jis'] 26)) := (Ext.refl _).alloc _
      replace T := T.ext eV8
      replace na := na.ext eV8
      replace nb := nb.ext eV8
      replace im := im.ext eV8
      replace is := is.ext eV8
      replace Ba := Ba.ext eV8
      replace Bb := Bb.ext eV8
      replace Vm := Vm.ext eV8
      have EV8 := E54.trans eV8
      clear eV8 E54
      generalize hgen : (w54.alloc (.cells #[.bool bis, .slice Ais lis cis, .int .i64 jis, .bool bis', .slice Ais' lis' cis', .int .i64 jis'] 26)) = V8 at *
      clear hgen
      obtain ⟨Ba_0, Ba_1, Ba_2, Ba_3, Ba_4, Ba_5⟩ := id Ba
      have Ba_l := World.block_lt_of_cell? _ _ Ba_0
      obtain ⟨Bb_0, Bb_1, Bb_2, Bb_3, Bb_4, Bb_5⟩ := id Bb
      have Bb_l := World.block_lt_of_cell? _ _ Bb_0
      obtain ⟨Vs_0, Vs_1, Vs_2, Vs_3, Vs_4, Vs_5⟩ := id Vs
      have Vs_l := World.block_lt_of_cell? _ _ Vs_0
      refine wp_region_held_drew (S := (fun w' => (w'.cell? ⟨w.heap.size, 0, none⟩ = some (.bool nba) ∧ w'.cell? ⟨w.heap.size, 1, none⟩ = some (Ma) ∧ w'.cell? ⟨w.heap.size, 2, none⟩ = some (.int .i64 ia) ∧ w'.cell? ⟨w.heap.size, 3, none⟩ = some (.bool nba') ∧ w'.cell? ⟨w.heap.size, 4, none⟩ = some (Ma') ∧ w'.cell? ⟨w.heap.size, 5, none⟩ = some (.int .i64 ia')) ∧ (w'.cell? ⟨w.heap.size + 1, 0, none⟩ = some (.bool nbb) ∧ w'.cell? ⟨w.heap.size + 1, 1, none⟩ = some (Mb) ∧ w'.cell? ⟨w.heap.size + 1, 2, none⟩ = some (.int .i64 ib) ∧ w'.cell? ⟨w.heap.size + 1, 3, none⟩ = some (.bool nbb') ∧ w'.cell? ⟨w.heap.size + 1, 4, none⟩ = some (Mb') ∧ w'.cell? ⟨w.heap.size + 1, 5, none⟩ = some (.int .i64 ib')) ∧ (w'.cell? ⟨w54.heap.size, 0, none⟩ = some (.bool bis) ∧ w'.cell? ⟨w54.heap.size, 1, none⟩ = some (.slice Ais lis cis) ∧ w'.cell? ⟨w54.heap.size, 2, none⟩ = some (.int .i64 jis) ∧ w'.cell? ⟨w54.heap.size, 3, none⟩ = some (.bool bis') ∧ w'.cell? ⟨w54.heap.size, 4, none⟩ = some (.slice Ais' lis' cis') ∧ w'.cell? ⟨w54.heap.size, 5, none⟩ = some (.int .i64 jis')))) (by as_aux_lemma => kernel_rfl) ⟨bx6 (Ba.ext (Ext.refl V8).drew), bx6 (Bb.ext (Ext.refl V8).drew), bx6 (Vs.ext (Ext.refl V8).drew)⟩ (fun hHeld => ?_)
      refine wpAnyH_take (i := 0) (v := ?_) rfl (by as_aux_lemma => kernel_rfl) (by as_aux_lemma => kernel_rfl) (by as_aux_lemma => kernel_rfl) (fun _ _ _ h => h) (Or.inl ⟨by rfl, ?_⟩) (by assumption) ?_
      rotate_left
      · (intro w hSw; (try dsimp only at hSw); go_simp); (try with_reducible rfl)
      simp only [List.getElem_toArray, List.getElem_cons_zero, Act.put, List.setIfInBounds_toArray, List.set_cons_zero, List.set_cons_succ]
      refine wpAnyH_take (i := 1) (v := ?_) rfl (by as_aux_lemma => kernel_rfl) (by as_aux_lemma => kernel_rfl) (by as_aux_lemma => kernel_rfl) (fun _ _ _ h => h) (Or.inl ⟨by rfl, ?_⟩) (by assumption) ?_
      rotate_left
      · (intro w hSw; (try dsimp only at hSw); go_simp); (try with_reducible rfl)
      simp only [List.getElem_toArray, List.getElem_cons_zero, List.getElem_cons_succ, Act.put, List.setIfInBounds_toArray, List.set_cons_zero, List.set_cons_succ]
      refine wpAnyH_take (i := 2) (v := ?_) rfl (by as_aux_lemma => kernel_rfl) (by as_aux_lemma => kernel_rfl) (by as_aux_lemma => kernel_rfl) (fun _ _ _ h => h) (Or.inl ⟨by rfl, ?_⟩) (by assumption) ?_
      rotate_left
      · (intro w hSw; (try dsimp only at hSw); go_simp); (try with_reducible rfl)
      simp only [List.getElem_toArray, List.getElem_cons_zero, List.getElem_cons_succ, Act.put, List.setIfInBounds_toArray, List.set_cons_zero, List.set_cons_succ]
      refine wpAnyH_take (i := 3) (v := ?_) rfl (by as_aux_lemma => kernel_rfl) (by as_aux_lemma => kernel_rfl) (by as_aux_lemma => kernel_rfl) (fun _ _ _ h => h) (Or.inl ⟨by rfl, ?_⟩) (by assumption) ?_
      rotate_left
      · (intro w hSw; (try dsimp only at hSw); go_simp); (try with_reducible rfl)
      simp only [List.getElem_toArray, List.getElem_cons_zero, List.getElem_cons_succ, Act.put, List.setIfInBounds_toArray, List.set_cons_zero, List.set_cons_succ]
      refine wpAnyH_take (i := 4) (v := ?_) rfl (by as_aux_lemma => kernel_rfl) (by as_aux_lemma => kernel_rfl) (by as_aux_lemma => kernel_rfl) (fun _ _ _ h => h) (Or.inl ⟨by rfl, ?_⟩) (by assumption) ?_
      rotate_left
      · (intro w hSw; (try dsimp only at hSw); go_simp); (try with_reducible rfl)
      simp only [List.getElem_toArray, List.getElem_cons_zero, List.getElem_cons_succ, Act.put, List.setIfInBounds_toArray, List.set_cons_zero, List.set_cons_succ]
      refine wpAnyH_take (i := 5) (v := ?_) rfl (by as_aux_lemma => kernel_rfl) (by as_aux_lemma => kernel_rfl) (by as_aux_lemma => kernel_rfl) (fun _ _ _ h => h) (Or.inl ⟨by rfl, ?_⟩) (by assumption) ?_
      rotate_left
      · (intro w hSw; (try dsimp only at hSw); go_simp); (try with_reducible rfl)
      simp only [List.getElem_toArray, List.getElem_cons_zero, List.getElem_cons_succ, Act.put, List.setIfInBounds_toArray, List.set_cons_zero, List.set_cons_succ]
      refine wpAnyH_take (i := 6) (v := ?_) rfl (by as_aux_lemma => kernel_rfl) (by as_aux_lemma => kernel_rfl) (by as_aux_lemma => kernel_rfl) (fun _ _ _ h => h) (Or.inl ⟨by rfl, ?_⟩) (by assumption) ?_
      rotate_left
      · (intro w hSw; (try dsimp only at hSw); go_simp); (try with_reducible rfl)
      simp only [List.getElem_toArray, List.getElem_cons_zero, List.getElem_cons_succ, Act.put, List.setIfInBounds_toArray, List.set_cons_zero, List.set_cons_succ]
      refine wpAnyH_take (i := 7) (v := ?_) rfl (by as_aux_lemma => kernel_rfl) (by as_aux_lemma => kernel_rfl) (by as_aux_lemma => kernel_rfl) (fun _ _ _ h => h) (Or.inl ⟨by rfl, ?_⟩) (by assumption) ?_
      rotate_left
      · (intro w hSw; (try dsimp only at hSw); go_simp); (try with_reducible rfl)
      simp only [List.getElem_toArray, List.getElem_cons_zero, List.getElem_cons_succ, Act.put, List.setIfInBounds_toArray, List.set_cons_zero, List.set_cons_succ]
      refine wpAnyH_take (i := 8) (v := ?_) rfl (by as_aux_lemma => kernel_rfl) (by as_aux_lemma => kernel_rfl) (by as_aux_lemma => kernel_rfl) (fun _ _ _ h => h) (Or.inl ⟨by rfl, ?_⟩) (by assumption) ?_
      rotate_left
      · (intro w hSw; (try dsimp only at hSw); go_simp); (try with_reducible rfl)
      simp only [List.getElem_toArray, List.getElem_cons_zero, List.getElem_cons_succ, Act.put, List.setIfInBounds_toArray, List.set_cons_zero, List.set_cons_succ]
      refine wpAnyH_take (i := 10) (v := ?_) rfl (by as_aux_lemma => kernel_rfl) (by as_aux_lemma => kernel_rfl) (by as_aux_lemma => kernel_rfl) (fun _ _ _ h => h) (Or.inl ⟨by rfl, ?_⟩) (by assumption) ?_
      rotate_left
      · (intro w hSw; (try dsimp only at hSw); go_simp); (try with_reducible rfl)
      simp only [List.getElem_toArray, List.getElem_cons_zero, List.getElem_cons_succ, Act.put, List.setIfInBounds_toArray, List.set_cons_zero, List.set_cons_succ]
      refine wpAnyH_take (i := 12) (v := ?_) rfl (by as_aux_lemma => kernel_rfl) (by as_aux_lemma => kernel_rfl) (by as_aux_lemma => kernel_rfl) (fun _ _ _ h => h) (Or.inl ⟨by rfl, ?_⟩) (by assumption) ?_
      rotate_left
      · (intro w hSw; (try dsimp only at hSw); go_simp); (try with_reducible rfl)
      simp only [List.getElem_toArray, List.getElem_cons_zero, List.getElem_cons_succ, Act.put, List.setIfInBounds_toArray, List.set_cons_zero, List.set_cons_succ]
      refine wpAnyH_take (i := 9) (v := ?_) rfl (by as_aux_lemma => kernel_rfl) (by as_aux_lemma => kernel_rfl) (by as_aux_lemma => kernel_rfl) (fun _ _ _ h => h) (Or.inl ⟨by rfl, ?_⟩) (by assumption) ?_
      rotate_left
      · (intro w hSw; (try dsimp only at hSw); go_simp); (try with_reducible rfl)
      simp only [List.getElem_toArray, List.getElem_cons_zero, List.getElem_cons_succ, Act.put, List.setIfInBounds_toArray, List.set_cons_zero, List.set_cons_succ]
      refine wpAnyH_take (i := 11) (v := ?_) rfl (by as_aux_lemma => kernel_rfl) (by as_aux_lemma => kernel_rfl) (by as_aux_lemma => kernel_rfl) (fun _ _ _ h => h) (Or.inl ⟨by rfl, ?_⟩) (by assumption) ?_
      rotate_left
      · (intro w hSw; (try dsimp only at hSw); go_simp); (try with_reducible rfl)
      simp only [List.getElem_toArray, List.getElem_cons_zero, List.getElem_cons_succ, Act.put, List.setIfInBounds_toArray, List.set_cons_zero, List.set_cons_succ]
      refine wpAnyH_take (i := 13) (v := ?_) rfl (by as_aux_lemma => kernel_rfl) (by as_aux_lemma => kernel_rfl) (by as_aux_lemma => kernel_rfl) (fun _ _ _ h => h) (Or.inl ⟨by rfl, ?_⟩) (by assumption) ?_
      rotate_left
      · (intro w hSw; (try dsimp only at hSw); go_simp); (try with_reducible rfl)
      simp only [List.getElem_toArray, List.getElem_cons_zero, List.getElem_cons_succ, Act.put, List.setIfInBounds_toArray, List.set_cons_zero, List.set_cons_succ]
      refine wpAnyH_ready (rs := [14]) (by as_aux_lemma => kernel_rfl) (by simp) ?_
      refine AllReadyH.cons rfl (fun K hK => ?_) AllReadyH.nil
      go_simp
      refine (raddD_any _ _ _ la lb 200 392 (na.ext (Ext.refl V8).drew).lo (nb.ext (Ext.refl V8).drew).lo rla rlb (by omega)).mono ?_
      rintro _ z1 ⟨vz1, rfl, k1, ez1⟩
      have G1 : Ext V8 z1 := (Ext.refl V8).drew.trans ez1
      refine hK.out _ _ ⟨bx6 (Ba.ext G1), bx6 (Bb.ext G1), bx6 (Vs.ext G1)⟩ (fun hHeld => ?_)
      clear hK K ez1
      refine wpAnyH_ready (rs := [15]) (by as_aux_lemma => kernel_rfl) (by simp) ?_
      refine AllReadyH.cons rfl (fun K hK => ?_) AllReadyH.nil
      go_simp
      refine (rsameD_eq _ _ _ (la + lb) (is.ext G1).lo k1).mono ?_
      rintro _ z2 ⟨rfl, ez2⟩
      have G2 : Ext V8 z2 := G1.trans ez2
      replace k1 := k1.ext ez2
      refine hK.out _ _ ⟨bx6 (Ba.ext G2), bx6 (Bb.ext G2), bx6 (Vs.ext G2)⟩ (fun hHeld => ?_)
      clear hK K ez2 G1
      refine wpAnyH_take (i := 16) (v := ?_) rfl (by as_aux_lemma => kernel_rfl) (by as_aux_lemma => kernel_rfl) (by as_aux_lemma => kernel_rfl) (fun _ _ _ h => h) (Or.inl ⟨by rfl, ?_⟩) (by assumption) ?_
      rotate_left
      · (intro w hSw; (try dsimp only at hSw); go_simp); (try with_reducible rfl)
      simp only [List.getElem_toArray, List.getElem_cons_zero, List.getElem_cons_succ, Act.put, List.setIfInBounds_toArray, List.set_cons_zero, List.set_cons_succ]
      refine wpAnyH_take (i := 17) (v := ?_) rfl (by as_aux_lemma => kernel_rfl) (by as_aux_lemma => kernel_rfl) (by as_aux_lemma => kernel_rfl) (fun _ _ _ h => h) (Or.inl ⟨by rfl, ?_⟩) (by assumption) ?_
      rotate_left
      · (intro w hSw; (try dsimp only at hSw); go_simp); (try with_reducible rfl)
      simp only [List.getElem_toArray, List.getElem_cons_zero, List.getElem_cons_succ, Act.put, List.setIfInBounds_toArray, List.set_cons_zero, List.set_cons_succ]
      refine wpAnyH_take (i := 18) (v := ?_) rfl (by as_aux_lemma => kernel_rfl) (by as_aux_lemma => kernel_rfl) (by as_aux_lemma => kernel_rfl) (fun _ _ _ h => h) (Or.inl ⟨by rfl, ?_⟩) (by assumption) ?_
      rotate_left
      · (intro w hSw; (try dsimp only at hSw); go_simp); (try with_reducible rfl)
      simp only [List.getElem_toArray, List.getElem_cons_zero, List.getElem_cons_succ, Act.put, List.setIfInBounds_toArray, List.set_cons_zero, List.set_cons_succ]
      refine wpAnyH_take (i := 20) (v := ?_) rfl (by as_aux_lemma => kernel_rfl) (by as_aux_lemma => kernel_rfl) (by as_aux_lemma => kernel_rfl) (fun _ _ _ h => h) (Or.inl ⟨by rfl, ?_⟩) (by assumption) ?_
      rotate_left
      · (intro w hSw; (try dsimp only at hSw); go_simp); (try with_reducible rfl)
      simp only [List.getElem_toArray, List.getElem_cons_zero, List.getElem_cons_succ, Act.put, List.setIfInBounds_toArray, List.set_cons_zero, List.set_cons_succ]
      refine wpAnyH_take (i := 22) (v := ?_) rfl (by as_aux_lemma => kernel_rfl) (by as_aux_lemma => kernel_rfl) (by as_aux_lemma => kernel_rfl) (fun _ _ _ h => h) (Or.inl ⟨by rfl, ?_⟩) (by assumption) ?_
      rotate_left
      · (intro w hSw; (try dsimp only at hSw); go_simp); (try with_reducible rfl)
      simp only [List.getElem_toArray, List.getElem_cons_zero, List.getElem_cons_succ, Act.put, List.setIfInBounds_toArray, List.set_cons_zero, List.set_cons_succ]
      refine wpAnyH_take (i := 19) (v := ?_) rfl (by as_aux_lemma => kernel_rfl) (by as_aux_lemma => kernel_rfl) (by as_aux_lemma => kernel_rfl) (fun _ _ _ h => h) (Or.inl ⟨by rfl, ?_⟩) (by assumption) ?_
      rotate_left
      · (intro w hSw; (try dsimp only at hSw); go_simp); (try with_reducible rfl)
      simp only [List.getElem_toArray, List.getElem_cons_zero, List.getElem_cons_succ, Act.put, List.setIfInBounds_toArray, List.set_cons_zero, List.set_cons_succ]
      refine wpAnyH_take (i := 21) (v := ?_) rfl (by as_aux_lemma => kernel_rfl) (by as_aux_lemma => kernel_rfl) (by as_aux_lemma => kernel_rfl) (fun _ _ _ h => h) (Or.inl ⟨by rfl, ?_⟩) (by assumption) ?_
      rotate_left
      · (intro w hSw; (try dsimp only at hSw); go_simp); (try with_reducible rfl)
      simp only [List.getElem_toArray, List.getElem_cons_zero, List.getElem_cons_succ, Act.put, List.setIfInBounds_toArray, List.set_cons_zero, List.set_cons_succ]
      refine wpAnyH_take (i := 23) (v := ?_) rfl (by as_aux_lemma => kernel_rfl) (by as_aux_lemma => kernel_rfl) (by as_aux_lemma => kernel_rfl) (fun _ _ _ h => h) (Or.inl ⟨by rfl, ?_⟩) (by assumption) ?_
      rotate_left
      · (intro w hSw; (try dsimp only at hSw); go_simp); (try with_reducible rfl)
      simp only [List.getElem_toArray, List.getElem_cons_zero, List.getElem_cons_succ, Act.put, List.setIfInBounds_toArray, List.set_cons_zero, List.set_cons_succ]
      refine wpAnyH_ready (rs := [24]) (by as_aux_lemma => kernel_rfl) (by simp) ?_
      refine AllReadyH.cons rfl (fun K hK => ?_) AllReadyH.nil
      go_simp
      refine (raddD_any _ _ _ ha hb 200 392 (na.ext G2).hi (nb.ext G2).hi rha rhb (by omega)).mono ?_
      rintro _ z3 ⟨vz3, rfl, k3, ez3⟩
      have G3 : Ext V8 z3 := G2.trans ez3
      refine hK.out _ _ ⟨bx6 (Ba.ext G3), bx6 (Bb.ext G3), bx6 (Vs.ext G3)⟩ (fun hHeld => ?_)
      clear hK K ez3 G2 k1
      refine wpAnyH_ready (rs := [25]) (by as_aux_lemma => kernel_rfl) (by simp) ?_
      refine AllReadyH.cons rfl (fun K hK => ?_) AllReadyH.nil
      go_simp
      refine (rsameD_eq _ _ _ (ha + hb) (is.ext G3).hi k3).mono ?_
      rintro _ z4 ⟨rfl, ez4⟩
      have G4 : Ext V8 z4 := G3.trans ez4
      replace k3 := k3.ext ez4
      refine hK.out _ _ ⟨bx6 (Ba.ext G4), bx6 (Bb.ext G4), bx6 (Vs.ext G4)⟩ (fun hHeld => ?_)
      clear hK K ez4 G3
      refine wpAnyH_take (i := 26) (v := ?_) rfl (by as_aux_lemma => kernel_rfl) (by as_aux_lemma => kernel_rfl) (by as_aux_lemma => kernel_rfl) (fun _ _ _ h => h) (Or.inl ⟨by rfl, ?_⟩) (by assumption) ?_
      rotate_left
      · (intro w hSw; (try dsimp only at hSw); go_simp); (try with_reducible rfl)
      simp only [List.getElem_toArray, List.getElem_cons_zero, List.getElem_cons_succ, Act.put, List.setIfInBounds_toArray, List.set_cons_zero, List.set_cons_succ]
      refine wpAnyH_take (i := 27) (v := ?_) rfl (by as_aux_lemma => kernel_rfl) (by as_aux_lemma => kernel_rfl) (by as_aux_lemma => kernel_rfl) (fun _ _ _ h => h) (Or.inl ⟨by rfl, ?_⟩) (by assumption) ?_
      rotate_left
      · (intro w hSw; (try dsimp only at hSw); go_simp); (try with_reducible rfl)
      simp only [List.getElem_toArray, List.getElem_cons_zero, List.getElem_cons_succ, Act.put, List.setIfInBounds_toArray, List.set_cons_zero, List.set_cons_succ]
      refine wpAnyH_take (i := 28) (v := ?_) rfl (by as_aux_lemma => kernel_rfl) (by as_aux_lemma => kernel_rfl) (by as_aux_lemma => kernel_rfl) (fun _ _ _ h => h) (Or.inl ⟨by rfl, ?_⟩) (by assumption) ?_
      rotate_left
      · (intro w hSw; (try dsimp only at hSw); go_simp); (try with_reducible rfl)
      simp only [List.getElem_toArray, List.getElem_cons_zero, List.getElem_cons_succ, Act.put, List.setIfInBounds_toArray, List.set_cons_zero, List.set_cons_succ]
      refine wpAnyH_take (i := 30) (v := ?_) rfl (by as_aux_lemma => kernel_rfl) (by as_aux_lemma => kernel_rfl) (by as_aux_lemma => kernel_rfl) (fun _ _ _ h => h) (Or.inl ⟨by rfl, ?_⟩) (by assumption) ?_
      rotate_left
      · (intro w hSw; (try dsimp only at hSw); go_simp); (try with_reducible rfl)
      simp only [List.getElem_toArray, List.getElem_cons_zero, List.getElem_cons_succ, Act.put, List.setIfInBounds_toArray, List.set_cons_zero, List.set_cons_succ]
      refine wpAnyH_take (i := 32) (v := ?_) rfl (by as_aux_lemma => kernel_rfl) (by as_aux_lemma => kernel_rfl) (by as_aux_lemma => kernel_rfl) (fun _ _ _ h => h) (Or.inl ⟨by rfl, ?_⟩) (by assumption) ?_
      rotate_left
      · (intro w hSw; (try dsimp only at hSw); go_simp); (try with_reducible rfl)
      simp only [List.getElem_toArray, List.getElem_cons_zero, List.getElem_cons_succ, Act.put, List.setIfInBounds_toArray, List.set_cons_zero, List.set_cons_succ]
      refine wpAnyH_ready (rs := [29]) (by as_aux_lemma => kernel_rfl) (by simp) ?_
      refine AllReadyH.cons rfl (fun K hK => ?_) AllReadyH.nil
      go_simp
      refine (iwide_any _ _ (la + lb) (ha + hb) 200 393 (is.ext G4) q1 q2 (by omega) (T.ext G4)).mono ?_
      rintro _ z5 ⟨vz5, rfl, k5, ez5⟩
      have G5 : Ext V8 z5 := G4.trans ez5
      refine hK.out _ _ ⟨bx6 (Ba.ext G5), bx6 (Bb.ext G5), bx6 (Vs.ext G5)⟩ (fun hHeld => ?_)
      clear hK K ez5 G4 k3
      refine wpAnyH_ready (rs := [31]) (by as_aux_lemma => kernel_rfl) (by simp) ?_
      refine AllReadyH.cons rfl (fun K hK => ?_) AllReadyH.nil
      go_simp
      refine (rwide_any _ _ la ha 200 392 (na.ext G5) rla rha (by omega)).mono ?_
      rintro _ z6 ⟨vz6, rfl, k6, ez6⟩
      have G6 : Ext V8 z6 := G5.trans ez6
      replace k5 := k5.ext ez6
      refine hK.out _ _ ⟨bx6 (Ba.ext G6), bx6 (Bb.ext G6), bx6 (Vs.ext G6)⟩ (fun hHeld => ?_)
      clear hK K ez6 G5
      refine wpAnyH_ready (rs := [33]) (by as_aux_lemma => kernel_rfl) (by simp) ?_
      refine AllReadyH.cons rfl (fun K hK => ?_) AllReadyH.nil
      go_simp
      refine (rwide_any _ _ lb hb 200 392 (nb.ext G6) rlb rhb (by omega)).mono ?_
      rintro _ z7 ⟨vz7, rfl, k7, ez7⟩
      have G7 : Ext V8 z7 := G6.trans ez7
      replace k5 := k5.ext ez7
      replace k6 := k6.ext ez7
      refine hK.out _ _ ⟨bx6 (Ba.ext G7), bx6 (Bb.ext G7), bx6 (Vs.ext G7)⟩ (fun hHeld => ?_)
      clear hK K ez7 G6
      refine wpAnyH_ready (rs := [34]) (by as_aux_lemma => kernel_rfl) (by simp) ?_
      refine AllReadyH.cons rfl (fun K hK => ?_) AllReadyH.nil
      go_simp
      refine (radd_lit _ _ _ (ha + -la) (hb + -lb) ((ha + hb) + -(la + lb)) 200 393 HQ.out.1 k6 k7 w1 w2 (by omega)).mono ?_
      rintro _ z8 ⟨vz8, rfl, k8, ez8⟩
      have G8 : Ext V8 z8 := G7.trans ez8
      replace k5 := k5.ext ez8
      replace k6 := k6.ext ez8
      replace k7 := k7.ext ez8
      refine hK.out _ _ ⟨bx6 (Ba.ext G8), bx6 (Bb.ext G8), bx6 (Vs.ext G8)⟩ (fun hHeld => ?_)
      clear hK K ez8 G7
      refine wpAnyH_ready (rs := [35]) (by as_aux_lemma => kernel_rfl) (by simp) ?_
      refine AllReadyH.cons rfl (fun K hK => ?_) AllReadyH.nil
      go_simp
      refine (rsameD_eq _ _ _ ((ha + hb) + -(la + lb)) k5 k8).mono ?_
      rintro _ z9 ⟨rfl, ez9⟩
      have G9 : Ext V8 z9 := G8.trans ez9
      replace k5 := k5.ext ez9
      replace k8 := k8.ext ez9
      refine hK.out _ _ ⟨bx6 (Ba.ext G9), bx6 (Bb.ext G9), bx6 (Vs.ext G9)⟩ (fun hHeld => ?_)
      clear hK K ez9 G8 k6 k7
      refine wpAnyH_take (i := 36) (v := ?_) rfl (by as_aux_lemma => kernel_rfl) (by as_aux_lemma => kernel_rfl) (by as_aux_lemma => kernel_rfl) (fun _ _ _ h => h) (Or.inl ⟨by rfl, ?_⟩) (by assumption) ?_
      rotate_left
      · (intro w hSw; (try dsimp only at hSw); go_simp); (try with_reducible rfl)
      simp only [List.getElem_toArray, List.getElem_cons_zero, List.getElem_cons_succ, Act.put, List.setIfInBounds_toArray, List.set_cons_zero, List.set_cons_succ]
      refine wpAnyH_take (i := 37) (v := ?_) rfl (by as_aux_lemma => kernel_rfl) (by as_aux_lemma => kernel_rfl) (by as_aux_lemma => kernel_rfl) (fun _ _ _ h => h) (Or.inl ⟨by rfl, ?_⟩) (by assumption) ?_
      rotate_left
      · (intro w hSw; (try dsimp only at hSw); go_simp); (try with_reducible rfl)
      simp only [List.getElem_toArray, List.getElem_cons_zero, List.getElem_cons_succ, Act.put, List.setIfInBounds_toArray, List.set_cons_zero, List.set_cons_succ]
      refine wpAnyH_take (i := 38) (v := ?_) rfl (by as_aux_lemma => kernel_rfl) (by as_aux_lemma => kernel_rfl) (by as_aux_lemma => kernel_rfl) (fun _ _ _ h => h) (Or.inl ⟨by rfl, ?_⟩) (by assumption) ?_
      rotate_left
      · (intro w hSw; (try dsimp only at hSw); go_simp); (try with_reducible rfl)
      simp only [List.getElem_toArray, List.getElem_cons_zero, List.getElem_cons_succ, Act.put, List.setIfInBounds_toArray, List.set_cons_zero, List.set_cons_succ]
      refine wpAnyH_take (i := 41) (v := ?_) rfl (by as_aux_lemma => kernel_rfl) (by as_aux_lemma => kernel_rfl) (by as_aux_lemma => kernel_rfl) (fun _ _ _ h => h) (Or.inl ⟨by rfl, ?_⟩) (by assumption) ?_
      rotate_left
      · (intro w hSw; (try dsimp only at hSw); go_simp); (try with_reducible rfl)
      simp only [List.getElem_toArray, List.getElem_cons_zero, List.getElem_cons_succ, Act.put, List.setIfInBounds_toArray, List.set_cons_zero, List.set_cons_succ]
      refine wpAnyH_ready (rs := [39]) (by as_aux_lemma => kernel_rfl) (by simp) ?_
      refine AllReadyH.cons rfl (fun K hK => ?_) AllReadyH.nil
      go_simp
      refine (iflip_any _ _ la ha 200 392 (na.ext G9) rla rha (by omega) (T.ext G9)).mono ?_
      rintro _ z10 ⟨vz10, rfl, k10, ez10⟩
      have G10 : Ext V8 z10 := G9.trans ez10
      refine hK.out _ _ ⟨bx6 (Ba.ext G10), bx6 (Bb.ext G10), bx6 (Vs.ext G10)⟩ (fun hHeld => ?_)
      clear hK K ez10 G9 k5 k8
      refine wpAnyH_ready (rs := [40]) (by as_aux_lemma => kernel_rfl) (by simp) ?_
      refine AllReadyH.cons rfl (fun K hK => ?_) AllReadyH.nil
      go_simp
      refine (iflip_lit _ _ (-ha) (-la) la ha 200 392 HQ.out.2.1 HQ.out.2.2 k10 rha.neg rla.neg (by omega) (T.ext G10)).mono ?_
      rintro _ z11 ⟨vz11, rfl, k11, ez11⟩
      have G11 : Ext V8 z11 := G10.trans ez11
      replace k10 := k10.ext ez11
      refine hK.out _ _ ⟨bx6 (Ba.ext G11), bx6 (Bb.ext G11), bx6 (Vs.ext G11)⟩ (fun hHeld => ?_)
      clear hK K ez11 G10
      refine wpAnyH_ready (rs := [42]) (by as_aux_lemma => kernel_rfl) (by simp) ?_
      refine AllReadyH.cons rfl (fun K hK => ?_) AllReadyH.nil
      go_simp
      refine (risame_eq _ _ _ _ _ _ _ k11 (na.ext G11) rfl rfl).mono ?_
      rintro _ z12 ⟨rfl, ez12⟩
      have G12 : Ext V8 z12 := G11.trans ez12
      replace k11 := k11.ext ez12
      refine hK.out _ _ ⟨bx6 (Ba.ext G12), bx6 (Bb.ext G12), bx6 (Vs.ext G12)⟩ (fun hHeld => ?_)
      clear hK K ez12 G11 k10
      refine wpAnyH_take (i := 43) (v := ?_) rfl (by as_aux_lemma => kernel_rfl) (by as_aux_lemma => kernel_rfl) (by as_aux_lemma => kernel_rfl) (fun _ _ _ h => h) (Or.inl ⟨by rfl, ?_⟩) (by assumption) ?_
      rotate_left
      · (intro w hSw; (try dsimp only at hSw); go_simp); (try with_reducible rfl)
      simp only [List.getElem_toArray, List.getElem_cons_zero, List.getElem_cons_succ, Act.put, List.setIfInBounds_toArray, List.set_cons_zero, List.set_cons_succ]
      refine wpAnyH_take (i := 44) (v := ?_) rfl (by as_aux_lemma => kernel_rfl) (by as_aux_lemma => kernel_rfl) (by as_aux_lemma => kernel_rfl) (fun _ _ _ h => h) (Or.inl ⟨by rfl, ?_⟩) (by assumption) ?_
      rotate_left
      · (intro w hSw; (try dsimp only at hSw); go_simp); (try with_reducible rfl)
      simp only [List.getElem_toArray, List.getElem_cons_zero, List.getElem_cons_succ, Act.put, List.setIfInBounds_toArray, List.set_cons_zero, List.set_cons_succ]
      refine wpAnyH_done (by as_aux_lemma => kernel_rfl) ?_ _
      go_wp2
      go_ret
      exact ⟨rfl, EV8.trans G12⟩
theorem walk_IvlEnds (w : World) (T : Tb w) (nba : Bool) (Ma : Value) (xa : List Int) (ia : Int) (rowa : Row w Ma xa) (bda : -9223372036854775808 ≤ ia ∧ ia ≤ 9223372036854775807) (nba' : Bool) (Ma' : Value) (xa' : List Int) (ia' : Int) (rowa' : Row w Ma' xa') (bda' : -9223372036854775808 ≤ ia' ∧ ia' ≤ 9223372036854775807) (nbb : Bool) (Mb : Value) (xb : List Int) (ib : Int) (rowb : Row w Mb xb) (bdb : -9223372036854775808 ≤ ib ∧ ib ≤ 9223372036854775807) (nbb' : Bool) (Mb' : Value) (xb' : List Int) (ib' : Int) (rowb' : Row w Mb' xb') (bdb' : -9223372036854775808 ≤ ib' ∧ ib' ≤ 9223372036854775807) : Calls Tryd.prog 4 #[.agg #[.bool nba, Ma, .int .i64 ia, .bool nba', Ma', .int .i64 ia'], .agg #[.bool nbb, Mb, .int .i64 ib, .bool nbb', Mb', .int .i64 ib']] w (RetE w (.bool true)) := by
  cases hg : goodIs 2 (pk nba nbb nbb) (pk xa xb xb) (pk ia ib ib) (pk nba' nbb' nbb') (pk xa' xb' xb') (pk ia' ib' ib')
  · exact ends_no w T nba Ma xa ia rowa bda nba' Ma' xa' ia' rowa' bda' nbb Mb xb ib rowb bdb nbb' Mb' xb' ib' rowb' bdb' hg
  ·
    have hall := pk6_all (goodIs_true hg)
    obtain ⟨la, ha, na, oa, rla, rha⟩ := good_ivl rowa rowa' (hall.1 (by omega))
    obtain ⟨lb, hb, nb, ob, rlb, rhb⟩ := good_ivl rowb rowb' (hall.2.1 (by omega))
    exact ends_yes w T nba Ma xa ia rowa bda nba' Ma' xa' ia' rowa' bda' nbb Mb xb ib rowb bdb nbb' Mb' xb' ib' rowb' bdb' hg la ha na oa rla rha lb hb nb ob rlb rhb
end Go.Proofs.YtimdglgianheiaaDoor
