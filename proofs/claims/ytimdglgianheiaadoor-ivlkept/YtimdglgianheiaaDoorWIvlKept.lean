/- The walk of IvlKept. -/
import Derived.Test.YtimdglgianheiaaDoorPF
namespace Go.Proofs.YtimdglgianheiaaDoor
open Go.RowKit
set_option linter.unusedVariables false
theorem part_in {n : Int} (hn : 0 ≤ n ∧ n ≤ 255) : 0 ≤ dy n 0 * dy 1 (-8) ∧ dy n 0 * dy 1 (-8) ≤ 1 := by
  rw [dy_shift]
  have e1 : (1 : Dyadic) = dy 256 (-8) := by decide +kernel
  have e0 : (0 : Dyadic) = dy 0 (-8) := (dy_zero _).symm
  constructor
  · rw [e0, show (0 : Int) + -8 = -8 by omega, dy_le]; omega
  · rw [e1, show (0 : Int) + -8 = -8 by omega, dy_le]; omega
theorem btw_in {l h : Dyadic} {n : Int} (o : l ≤ h) (hn : 0 ≤ n ∧ n ≤ 255) : l ≤ btw l h n ∧ btw l h n ≤ h := by
  obtain ⟨h1, h2⟩ := part_in hn
  unfold btw
  have e : (h + -l) * dy n 0 * dy 1 (-8) = dy n 0 * dy 1 (-8) * (h + -l) := by grind
  rw [e]
  have o' : 0 ≤ h + -l := by grind
  have k1 := mulr h1 o'
  have k2 := mulr h2 o'
  constructor
  · grind
  · grind
theorem btw_rg {l h : Dyadic} {n : Int} (rl : Rg 200 392 l) (rh : Rg 200 392 h) (hn : 0 ≤ n ∧ n ≤ 255) : Rg 208 412 (btw l h n) := by
  have q1 : Rg 200 393 (h + -l) := rh.add rl.neg
  have q2 : Rg 0 9 (dy n 0) := Rg.int (by constructor <;> omega)
  have q4 : Rg 208 411 ((h + -l) * dy n 0 * dy 1 (-8)) := (q1.mul q2).mul (Rg.pow (K := 8) (by omega))
  exact (rl.mono (by omega) (by omega) : Rg 208 411 l).add q4
theorem has_t {l h x : Dyadic} (h1 : l ≤ x) (h2 : x ≤ h) : hasB l h x = true := by unfold hasB; rw [decide_eq_true h1, decide_eq_true h2]; rfl
theorem dy_one_nn (k : Int) : 0 ≤ dy 1 k := dy_nn (m := 1)
set_option maxRecDepth 100000 in
set_option maxHeartbeats 4000000 in
theorem kept_no (w : World) (T : Tb w) (nba : Bool) (Ma : Value) (xa : List Int) (ia : Int) (rowa : Row w Ma xa) (bda : -9223372036854775808 ≤ ia ∧ ia ≤ 9223372036854775807) (nba' : Bool) (Ma' : Value) (xa' : List Int) (ia' : Int) (rowa' : Row w Ma' xa') (bda' : -9223372036854775808 ≤ ia' ∧ ia' ≤ 9223372036854775807) (nbb : Bool) (Mb : Value) (xb : List Int) (ib : Int) (rowb : Row w Mb xb) (bdb : -9223372036854775808 ≤ ib ∧ ib ≤ 9223372036854775807) (nbb' : Bool) (Mb' : Value) (xb' : List Int) (ib' : Int) (rowb' : Row w Mb' xb') (bdb' : -9223372036854775808 ≤ ib' ∧ ib' ≤ 9223372036854775807) (x : Int) (bx : 0 ≤ x ∧ x ≤ 255) (y : Int) (by_ : 0 ≤ y ∧ y ≤ 255) (k : Int) (bk : -9223372036854775808 ≤ k ∧ k ≤ 9223372036854775807) (hg : goodIs 2 (pk nba nbb nbb) (pk xa xb xb) (pk ia ib ib) (pk nba' nbb' nbb') (pk xa' xb' xb') (pk ia' ib' ib') = false) :
    Calls Tryd.prog 3 #[.agg #[.bool nba, Ma, .int .i64 ia, .bool nba', Ma', .int .i64 ia'], .agg #[.bool nbb, Mb, .int .i64 ib, .bool nbb', Mb', .int .i64 ib'], .int .u8 x, .int .u8 y, .int .i64 k] w (RetE w (.bool true)) := by
  go_enter Tryd.func3, Tryd.ntmps3
  go_wp2_with fail
  refine (headI_any _ (T.ext (((Ext.refl w).alloc _).alloc _))).mono ?_
  rintro _ w1 ⟨rfl, f1⟩
  have Ba : Bx w1 (w.heap.size) (.bool nba) (Ma) (.int .i64 ia) (.bool nba') (Ma') (.int .i64 ia') := Bx.at (((Ext.refl _).alloc _).trans f1) (by simp)
  have Bb : Bx w1 (w.heap.size + 1) (.bool nbb) (Mb) (.int .i64 ib) (.bool nbb') (Mb') (.int .i64 ib') := Bx.at ((Ext.refl _).trans f1) (by simp)
  have e1 : Ext w w1 := (((Ext.refl w).alloc _).alloc _).trans f1
  replace T := T.ext e1
  replace rowa := rowa.ext e1
  replace rowa' := rowa'.ext e1
  replace rowb := rowb.ext e1
  replace rowb' := rowb'.ext e1
  have E1 : Ext w w1 := e1
  clear f1
  obtain ⟨Ba_0, Ba_1, Ba_2, Ba_3, Ba_4, Ba_5⟩ := id Ba
  have Ba_l := World.block_lt_of_cell? _ _ Ba_0
  obtain ⟨Bb_0, Bb_1, Bb_2, Bb_3, Bb_4, Bb_5⟩ := id Bb
  have Bb_l := World.block_lt_of_cell? _ _ Bb_0
  have HG := Lib.hid (good5_any _ _ 2 2 _ _ _ _ _ _ _ _ (by omega) (manyI2 w1 26 nba nbb Ma Mb xa xb ia ib rowa rowb bda bdb nba' nbb' Ma' Mb' xa' xb' ia' ib' rowa' rowb' bda' bdb'))
  rw [hg] at HG
  clear hg
  go_wp2_with fail
  refine (HG.out).mono ?_
  rintro _ w2 ⟨rfl, f2⟩
  clear Ba_0 Ba_1 Ba_2 Ba_3 Ba_4 Ba_5 Ba_l Bb_0 Bb_1 Bb_2 Bb_3 Bb_4 Bb_5 Bb_l
  have e2 : Ext w1 w2 := ((Ext.refl w1).alloc _).trans f2
  replace T := T.ext e2
  replace rowa := rowa.ext e2
  replace rowa' := rowa'.ext e2
  replace rowb := rowb.ext e2
  replace rowb' := rowb'.ext e2
  replace Ba := Ba.ext e2
  replace Bb := Bb.ext e2
  have E2 : Ext w w2 := E1.trans e2
  clear e2 f2 E1
  clear HG
  go_wp2
  go_ret
  exact ⟨rfl, E2⟩
set_option maxRecDepth 100000 in
set_option maxHeartbeats 4000000 in
theorem kept_low (w : World) (T : Tb w) (nba : Bool) (Ma : Value) (xa : List Int) (ia : Int) (rowa : Row w Ma xa) (bda : -9223372036854775808 ≤ ia ∧ ia ≤ 9223372036854775807) (nba' : Bool) (Ma' : Value) (xa' : List Int) (ia' : Int) (rowa' : Row w Ma' xa') (bda' : -9223372036854775808 ≤ ia' ∧ ia' ≤ 9223372036854775807) (nbb : Bool) (Mb : Value) (xb : List Int) (ib : Int) (rowb : Row w Mb xb) (bdb : -9223372036854775808 ≤ ib ∧ ib ≤ 9223372036854775807) (nbb' : Bool) (Mb' : Value) (xb' : List Int) (ib' : Int) (rowb' : Row w Mb' xb') (bdb' : -9223372036854775808 ≤ ib' ∧ ib' ≤ 9223372036854775807) (x : Int) (bx : 0 ≤ x ∧ x ≤ 255) (y : Int) (by_ : 0 ≤ y ∧ y ≤ 255) (k : Int) (bk : -9223372036854775808 ≤ k ∧ k ≤ 9223372036854775807) (hg : goodIs 2 (pk nba nbb nbb) (pk xa xb xb) (pk ia ib ib) (pk nba' nbb' nbb') (pk xa' xb' xb') (pk ia' ib' ib') = true) (la ha : Dyadic) (na : In w (.agg #[.bool nba, Ma, .int .i64 ia, .bool nba', Ma', .int .i64 ia']) la ha) (oa : la ≤ ha) (rla : Rg 200 392 la) (rha : Rg 200 392 ha) (lb hb : Dyadic) (nb : In w (.agg #[.bool nbb, Mb, .int .i64 ib, .bool nbb', Mb', .int .i64 ib']) lb hb) (ob : lb ≤ hb) (rlb : Rg 200 392 lb) (rhb : Rg 200 392 hb) (hk : k < -500) :
    Calls Tryd.prog 3 #[.agg #[.bool nba, Ma, .int .i64 ia, .bool nba', Ma', .int .i64 ia'], .agg #[.bool nbb, Mb, .int .i64 ib, .bool nbb', Mb', .int .i64 ib'], .int .u8 x, .int .u8 y, .int .i64 k] w (RetE w (.bool true)) := by
  go_enter Tryd.func3, Tryd.ntmps3
  go_wp2_with fail
  refine (headI_any _ (T.ext (((Ext.refl w).alloc _).alloc _))).mono ?_
  rintro _ w1 ⟨rfl, f1⟩
  have Ba : Bx w1 (w.heap.size) (.bool nba) (Ma) (.int .i64 ia) (.bool nba') (Ma') (.int .i64 ia') := Bx.at (((Ext.refl _).alloc _).trans f1) (by simp)
  have Bb : Bx w1 (w.heap.size + 1) (.bool nbb) (Mb) (.int .i64 ib) (.bool nbb') (Mb') (.int .i64 ib') := Bx.at ((Ext.refl _).trans f1) (by simp)
  have e1 : Ext w w1 := (((Ext.refl w).alloc _).alloc _).trans f1
  replace T := T.ext e1
  replace rowa := rowa.ext e1
  replace rowa' := rowa'.ext e1
  replace rowb := rowb.ext e1
  replace rowb' := rowb'.ext e1
  replace na := na.ext e1
  replace nb := nb.ext e1
  have E1 : Ext w w1 := e1
  clear f1
  obtain ⟨Ba_0, Ba_1, Ba_2, Ba_3, Ba_4, Ba_5⟩ := id Ba
  have Ba_l := World.block_lt_of_cell? _ _ Ba_0
  obtain ⟨Bb_0, Bb_1, Bb_2, Bb_3, Bb_4, Bb_5⟩ := id Bb
  have Bb_l := World.block_lt_of_cell? _ _ Bb_0
  have HG := Lib.hid (good5_any _ _ 2 2 _ _ _ _ _ _ _ _ (by omega) (manyI2 w1 26 nba nbb Ma Mb xa xb ia ib rowa rowb bda bdb nba' nbb' Ma' Mb' xa' xb' ia' ib' rowa' rowb' bda' bdb'))
  rw [hg] at HG
  clear hg
  go_wp2_with fail
  refine (HG.out).mono ?_
  rintro _ w2 ⟨rfl, f2⟩
  clear Ba_0 Ba_1 Ba_2 Ba_3 Ba_4 Ba_5 Ba_l Bb_0 Bb_1 Bb_2 Bb_3 Bb_4 Bb_5 Bb_l
  have e2 : Ext w1 w2 := ((Ext.refl w1).alloc _).trans f2
  replace T := T.ext e2
  replace rowa := rowa.ext e2
  replace rowa' := rowa'.ext e2
  replace rowb := rowb.ext e2
  replace rowb' := rowb'.ext e2
  replace na := na.ext e2
  replace nb := nb.ext e2
  replace Ba := Ba.ext e2
  replace Bb := Bb.ext e2
  have E2 : Ext w w2 := E1.trans e2
  clear e2 f2 E1
  clear HG
  clear rowa rowa' rowb rowb'
  clear bda bda' bdb bdb'
  go_wp2
  go_ret
  exact ⟨rfl, E2⟩
set_option maxRecDepth 100000 in
set_option maxHeartbeats 4000000 in
theorem kept_high (w : World) (T : Tb w) (nba : Bool) (Ma : Value) (xa : List Int) (ia : Int) (rowa : Row w Ma xa) (bda : -9223372036854775808 ≤ ia ∧ ia ≤ 9223372036854775807) (nba' : Bool) (Ma' : Value) (xa' : List Int) (ia' : Int) (rowa' : Row w Ma' xa') (bda' : -9223372036854775808 ≤ ia' ∧ ia' ≤ 9223372036854775807) (nbb : Bool) (Mb : Value) (xb : List Int) (ib : Int) (rowb : Row w Mb xb) (bdb : -9223372036854775808 ≤ ib ∧ ib ≤ 9223372036854775807) (nbb' : Bool) (Mb' : Value) (xb' : List Int) (ib' : Int) (rowb' : Row w Mb' xb') (bdb' : -9223372036854775808 ≤ ib' ∧ ib' ≤ 9223372036854775807) (x : Int) (bx : 0 ≤ x ∧ x ≤ 255) (y : Int) (by_ : 0 ≤ y ∧ y ≤ 255) (k : Int) (bk : -9223372036854775808 ≤ k ∧ k ≤ 9223372036854775807) (hg : goodIs 2 (pk nba nbb nbb) (pk xa xb xb) (pk ia ib ib) (pk nba' nbb' nbb') (pk xa' xb' xb') (pk ia' ib' ib') = true) (la ha : Dyadic) (na : In w (.agg #[.bool nba, Ma, .int .i64 ia, .bool nba', Ma', .int .i64 ia']) la ha) (oa : la ≤ ha) (rla : Rg 200 392 la) (rha : Rg 200 392 ha) (lb hb : Dyadic) (nb : In w (.agg #[.bool nbb, Mb, .int .i64 ib, .bool nbb', Mb', .int .i64 ib']) lb hb) (ob : lb ≤ hb) (rlb : Rg 200 392 lb) (rhb : Rg 200 392 hb) (hk0 : ¬ k < -500) (hk : 500 < k) :
    Calls Tryd.prog 3 #[.agg #[.bool nba, Ma, .int .i64 ia, .bool nba', Ma', .int .i64 ia'], .agg #[.bool nbb, Mb, .int .i64 ib, .bool nbb', Mb', .int .i64 ib'], .int .u8 x, .int .u8 y, .int .i64 k] w (RetE w (.bool true)) := by
  go_enter Tryd.func3, Tryd.ntmps3
  go_wp2_with fail
  refine (headI_any _ (T.ext (((Ext.refl w).alloc _).alloc _))).mono ?_
  rintro _ w1 ⟨rfl, f1⟩
  have Ba : Bx w1 (w.heap.size) (.bool nba) (Ma) (.int .i64 ia) (.bool nba') (Ma') (.int .i64 ia') := Bx.at (((Ext.refl _).alloc _).trans f1) (by simp)
  have Bb : Bx w1 (w.heap.size + 1) (.bool nbb) (Mb) (.int .i64 ib) (.bool nbb') (Mb') (.int .i64 ib') := Bx.at ((Ext.refl _).trans f1) (by simp)
  have e1 : Ext w w1 := (((Ext.refl w).alloc _).alloc _).trans f1
  replace T := T.ext e1
  replace rowa := rowa.ext e1
  replace rowa' := rowa'.ext e1
  replace rowb := rowb.ext e1
  replace rowb' := rowb'.ext e1
  replace na := na.ext e1
  replace nb := nb.ext e1
  have E1 : Ext w w1 := e1
  clear f1
  obtain ⟨Ba_0, Ba_1, Ba_2, Ba_3, Ba_4, Ba_5⟩ := id Ba
  have Ba_l := World.block_lt_of_cell? _ _ Ba_0
  obtain ⟨Bb_0, Bb_1, Bb_2, Bb_3, Bb_4, Bb_5⟩ := id Bb
  have Bb_l := World.block_lt_of_cell? _ _ Bb_0
  have HG := Lib.hid (good5_any _ _ 2 2 _ _ _ _ _ _ _ _ (by omega) (manyI2 w1 26 nba nbb Ma Mb xa xb ia ib rowa rowb bda bdb nba' nbb' Ma' Mb' xa' xb' ia' ib' rowa' rowb' bda' bdb'))
  rw [hg] at HG
  clear hg
  go_wp2_with fail
  refine (HG.out).mono ?_
  rintro _ w2 ⟨rfl, f2⟩
  clear Ba_0 Ba_1 Ba_2 Ba_3 Ba_4 Ba_5 Ba_l Bb_0 Bb_1 Bb_2 Bb_3 Bb_4 Bb_5 Bb_l
  have e2 : Ext w1 w2 := ((Ext.refl w1).alloc _).trans f2
  replace T := T.ext e2
  replace rowa := rowa.ext e2
  replace rowa' := rowa'.ext e2
  replace rowb := rowb.ext e2
  replace rowb' := rowb'.ext e2
  replace na := na.ext e2
  replace nb := nb.ext e2
  replace Ba := Ba.ext e2
  replace Bb := Bb.ext e2
  have E2 : Ext w w2 := E1.trans e2
  clear e2 f2 E1
  clear HG
  clear rowa rowa' rowb rowb'
  clear bda bda' bdb bdb'
  go_wp2
  go_ret
  exact ⟨rfl, E2⟩
set_option maxRecDepth 100000 in
set_option maxHeartbeats 4000000 in
theorem kept_yes (w : World) (T : Tb w) (nba : Bool) (Ma : Value) (xa : List Int) (ia : Int) (rowa : Row w Ma xa) (bda : -9223372036854775808 ≤ ia ∧ ia ≤ 9223372036854775807) (nba' : Bool) (Ma' : Value) (xa' : List Int) (ia' : Int) (rowa' : Row w Ma' xa') (bda' : -9223372036854775808 ≤ ia' ∧ ia' ≤ 9223372036854775807) (nbb : Bool) (Mb : Value) (xb : List Int) (ib : Int) (rowb : Row w Mb xb) (bdb : -9223372036854775808 ≤ ib ∧ ib ≤ 9223372036854775807) (nbb' : Bool) (Mb' : Value) (xb' : List Int) (ib' : Int) (rowb' : Row w Mb' xb') (bdb' : -9223372036854775808 ≤ ib' ∧ ib' ≤ 9223372036854775807) (x : Int) (bx : 0 ≤ x ∧ x ≤ 255) (y : Int) (by_ : 0 ≤ y ∧ y ≤ 255) (k : Int) (bk : -9223372036854775808 ≤ k ∧ k ≤ 9223372036854775807) (hg : goodIs 2 (pk nba nbb nbb) (pk xa xb xb) (pk ia ib ib) (pk nba' nbb' nbb') (pk xa' xb' xb') (pk ia' ib' ib') = true) (la ha : Dyadic) (na : In w (.agg #[.bool nba, Ma, .int .i64 ia, .bool nba', Ma', .int .i64 ia']) la ha) (oa : la ≤ ha) (rla : Rg 200 392 la) (rha : Rg 200 392 ha) (lb hb : Dyadic) (nb : In w (.agg #[.bool nbb, Mb, .int .i64 ib, .bool nbb', Mb', .int .i64 ib']) lb hb) (ob : lb ≤ hb) (rlb : Rg 200 392 lb) (rhb : Rg 200 392 hb) (hk0 : ¬ k < -500) (hk1 : ¬ 500 < k) :
    Calls Tryd.prog 3 #[.agg #[.bool nba, Ma, .int .i64 ia, .bool nba', Ma', .int .i64 ia'], .agg #[.bool nbb, Mb, .int .i64 ib, .bool nbb', Mb', .int .i64 ib'], .int .u8 x, .int .u8 y, .int .i64 k] w (RetE w (.bool true)) := by
  go_enter Tryd.func3, Tryd.ntmps3
  go_wp2_with fail
  refine (headI_any _ (T.ext (((Ext.refl w).alloc _).alloc _))).mono ?_
  rintro _ w1 ⟨rfl, f1⟩
  have Ba : Bx w1 (w.heap.size) (.bool nba) (Ma) (.int .i64 ia) (.bool nba') (Ma') (.int .i64 ia') := Bx.at (((Ext.refl _).alloc _).trans f1) (by simp)
  have Bb : Bx w1 (w.heap.size + 1) (.bool nbb) (Mb) (.int .i64 ib) (.bool nbb') (Mb') (.int .i64 ib') := Bx.at ((Ext.refl _).trans f1) (by simp)
  have e1 : Ext w w1 := (((Ext.refl w).alloc _).alloc _).trans f1
  replace T := T.ext e1
  replace rowa := rowa.ext e1
  replace rowa' := rowa'.ext e1
  replace rowb := rowb.ext e1
  replace rowb' := rowb'.ext e1
  replace na := na.ext e1
  replace nb := nb.ext e1
  have E1 : Ext w w1 := e1
  clear f1
  obtain ⟨Ba_0, Ba_1, Ba_2, Ba_3, Ba_4, Ba_5⟩ := id Ba
  have Ba_l := World.block_lt_of_cell? _ _ Ba_0
  obtain ⟨Bb_0, Bb_1, Bb_2, Bb_3, Bb_4, Bb_5⟩ := id Bb
  have Bb_l := World.block_lt_of_cell? _ _ Bb_0
  have HG := Lib.hid (good5_any _ _ 2 2 _ _ _ _ _ _ _ _ (by omega) (manyI2 w1 26 nba nbb Ma Mb xa xb ia ib rowa rowb bda bdb nba' nbb' Ma' Mb' xa' xb' ia' ib' rowa' rowb' bda' bdb'))
  rw [hg] at HG
  clear hg
  go_wp2_with fail
  refine (HG.out).mono ?_
  rintro _ w2 ⟨rfl, f2⟩
  clear Ba_0 Ba_1 Ba_2 Ba_3 Ba_4 Ba_5 Ba_l Bb_0 Bb_1 Bb_2 Bb_3 Bb_4 Bb_5 Bb_l
  have e2 : Ext w1 w2 := ((Ext.refl w1).alloc _).trans f2
  replace T := T.ext e2
  replace rowa := rowa.ext e2
  replace rowa' := rowa'.ext e2
  replace rowb := rowb.ext e2
  replace rowb' := rowb'.ext e2
  replace na := na.ext e2
  replace nb := nb.ext e2
  replace Ba := Ba.ext e2
  replace Bb := Bb.ext e2
  have E2 : Ext w w2 := E1.trans e2
  clear e2 f2 E1
  clear HG
  clear rowa rowa' rowb rowb'
  clear bda bda' bdb bdb'
  obtain ⟨Ba_0, Ba_1, Ba_2, Ba_3, Ba_4, Ba_5⟩ := id Ba
  have Ba_l := World.block_lt_of_cell? _ _ Ba_0
  go_wp2_with fail
  refine (between_any _ _ la ha x na rla rha bx).mono ?_
  rintro _ w3 ⟨v3, rfl, gd, f3⟩
  clear Ba_0 Ba_1 Ba_2 Ba_3 Ba_4 Ba_5 Ba_l
  have e3 : Ext w2 w3 := (Ext.refl w2).trans f3
  replace T := T.ext e3
  replace na := na.ext e3
  replace nb := nb.ext e3
  replace Ba := Ba.ext e3
  replace Bb := Bb.ext e3
  have E3 : Ext w w3 := E2.trans e3
  clear e3 f3 E2
  obtain ⟨bgd, Agd, lgd, cgd, jgd, rfl⟩ := gd.form
  obtain ⟨Bb_0, Bb_1, Bb_2, Bb_3, Bb_4, Bb_5⟩ := id Bb
  have Bb_l := World.block_lt_of_cell? _ _ Bb_0
  go_wp2_with fail
  refine (between_any _ _ lb hb y (nb.ext ((Ext.refl w3).alloc _)) rlb rhb by_).mono ?_
  rintro _ w4 ⟨v4, rfl, ge, f4⟩
  clear Bb_0 Bb_1 Bb_2 Bb_3 Bb_4 Bb_5 Bb_l
  have Vd : Box w4 (w3.heap.size) (.bool bgd) (.slice Agd lgd cgd) (.int .i64 jgd) := Box.at ((Ext.refl _).trans f4) (by simp)
  have e4 : Ext w3 w4 := ((Ext.refl w3).alloc _).trans f4
  replace T := T.ext e4
  replace na := na.ext e4
  replace nb := nb.ext e4
  replace gd := gd.ext e4
  replace Ba := Ba.ext e4
  replace Bb := Bb.ext e4
  have E4 : Ext w w4 := E3.trans e4
  clear e4 f4 E3
  obtain ⟨bge, Age, lge, cge, jge, rfl⟩ := ge.form
  obtain ⟨d1, d2⟩ := btw_in oa bx
  obtain ⟨e1, e2⟩ := btw_in ob by_
  have rd := btw_rg rla rha bx
  have re := btw_rg rlb rhb by_
  generalize btw la ha x = d at *
  generalize btw lb hb y = e at *
  have HQ := Lib.hid (And.intro (has_t (show la + lb ≤ d + e by grind) (show d + e ≤ ha + hb by grind)) (And.intro (has_t (mul_kept d1 d2 e1 e2).1 (mul_kept d1 d2 e1 e2).2) (And.intro (has_t (show -ha ≤ -d by grind) (show -d ≤ -la by grind)) (And.intro (has_t (mulr d1 (dy_one_nn k)) (mulr d2 (dy_one_nn k))) (has_t d1 d2)))))
  have rs := And.intro (rla.add rlb) (rha.add rhb)
  have rm := rg_mul4 rla rha rlb rhb
  have rk := Rg.pow (k := k) (K := 500) (by omega)
  have rt := And.intro (rla.mul rk) (rha.mul rk)
  have rdk := rd.mul rk
  have rde := rd.mul re
  have rda := rd.add re
  clear d1 d2 e1 e2 oa ob
  go_wp2
  try simp only [List.append_eq, List.cons_append, List.nil_append]
  have Ve : Box (w4.alloc (.cells #[.bool bge, .slice Age lge cge, .int .i64 jge] 24)) w4.heap.size (.bool bge) (.slice Age lge cge) (.int .i64 jge) := Box.at (Ext.refl _) rfl
  have eV9 : Ext w4 (w4.alloc (.cells #[.bool bge, .slice Age lge cge, .int .i64 jge] 24)) := (Ext.refl _).alloc _
  replace T := T.ext eV9
  replace na := na.ext eV9
  replace nb := nb.ext eV9
  replace gd := gd.ext eV9
  replace ge := ge.ext eV9
  replace Ba := Ba.ext eV9
  replace Bb := Bb.ext eV9
  replace Vd := Vd.ext eV9
  have EV9 := E4.trans eV9
  clear eV9 E4
  generalize hgen : (w4.alloc (.cells #[.bool bge, .slice Age lge cge, .int .i64 jge] 24)) = V9 at *
  clear hgen
  obtain ⟨Ba_0, Ba_1, Ba_2, Ba_3, Ba_4, Ba_5⟩ := id Ba
  have Ba_l := World.block_lt_of_cell? _ _ Ba_0
  obtain ⟨Bb_0, Bb_1, Bb_2, Bb_3, Bb_4, Bb_5⟩ := id Bb
  have Bb_l := World.block_lt_of_cell? _ _ Bb_0
  obtain ⟨Vd_0, Vd_1, Vd_2⟩ := id Vd
  have Vd_l := World.block_lt_of_cell? _ _ Vd_0
  obtain ⟨Ve_0, Ve_1, Ve_2⟩ := id Ve
  have Ve_l := World.block_lt_of_cell? _ _ Ve_0
  refine wp_region_held_drew (S := (fun w' => (w'.cell? ⟨w.heap.size, 0, none⟩ = some (.bool nba) ∧ w'.cell? ⟨w.heap.size, 1, none⟩ = some (Ma) ∧ w'.cell? ⟨w.heap.size, 2, none⟩ = some (.int .i64 ia) ∧ w'.cell? ⟨w.heap.size, 3, none⟩ = some (.bool nba') ∧ w'.cell? ⟨w.heap.size, 4, none⟩ = some (Ma') ∧ w'.cell? ⟨w.heap.size, 5, none⟩ = some (.int .i64 ia')) ∧ (w'.cell? ⟨w.heap.size + 1, 0, none⟩ = some (.bool nbb) ∧ w'.cell? ⟨w.heap.size + 1, 1, none⟩ = some (Mb) ∧ w'.cell? ⟨w.heap.size + 1, 2, none⟩ = some (.int .i64 ib) ∧ w'.cell? ⟨w.heap.size + 1, 3, none⟩ = some (.bool nbb') ∧ w'.cell? ⟨w.heap.size + 1, 4, none⟩ = some (Mb') ∧ w'.cell? ⟨w.heap.size + 1, 5, none⟩ = some (.int .i64 ib')) ∧ (w'.cell? ⟨w3.heap.size, 0, none⟩ = some (.bool bgd) ∧ w'.cell? ⟨w3.heap.size, 1, none⟩ = some (.slice Agd lgd cgd) ∧ w'.cell? ⟨w3.heap.size, 2, none⟩ = some (.int .i64 jgd)) ∧ (w'.cell? ⟨w4.heap.size, 0, none⟩ = some (.bool bge) ∧ w'.cell? ⟨w4.heap.size, 1, none⟩ = some (.slice Age lge cge) ∧ w'.cell? ⟨w4.heap.size, 2, none⟩ = some (.int .i64 jge)))) (by as_aux_lemma => kernel_rfl) ⟨bx6 (Ba.ext (Ext.refl V9).drew), bx6 (Bb.ext (Ext.refl V9).drew), box3 (Vd.ext (Ext.refl V9).drew), box3 (Ve.ext (Ext.refl V9).drew)⟩ (fun hHeld => ?_)
  refine wpAnyH_take (i := 0) (v := ?_) rfl (by as_aux_lemma => kernel_rfl) (by as_aux_lemma => kernel_rfl) (by as_aux_lemma => kernel_rfl) (fun _ _ _ h => h) (Or.inl ⟨by rfl, ?_⟩) (by assumption) ?_
  rotate_left
  · (intro w hSw; (try dsimp only at hSw); go_simp); (try with_reducible rfl)
  simp only [List.getElem_toArray, List.getElem_cons_zero, Act.put, List.setIfInBounds_toArray, List.set_cons_zero, List.set_cons_succ]
  refine wpAnyH_take (i := 1) (v := ?_) rfl (by as_aux_lemma => kernel_rfl) (by as_aux_lemma => kernel_rfl) (by as_aux_lemma => kernel_rfl) (fun _ _ _ h => h) (Or.inl ⟨by rfl, ?_⟩) (by assumption) ?_
  rotate_left
  · (intro w hSw; (try dsimp only at hSw); go_simp); (try with_reducible rfl)
  simp only [List.getElem_toArray, List.getElem_cons_zero, List.getElem_cons_succ, Act.put, List.setIfInBounds_toArray, List.set_cons_zero, List.set_cons_succ]
  refine wpAnyH_take (i := 2) (v := ?_) rfl (by as_aux_lemma => kernel_rfl) (by as_aux_lemma => kernel_rfl) (by as_aux_lemma => kernel_rfl) (fun _ _ _ h => h) (Or.inl ⟨by rfl, ?_⟩) (by assumption) ?_
  rotate_left
  · (intro w hSw; (try dsimp only at hSw); go_simp); (try with_reducible rfl)
  simp only [List.getElem_toArray, List.getElem_cons_zero, List.getElem_cons_succ, Act.put, List.setIfInBounds_toArray, List.set_cons_zero, List.set_cons_succ]
  refine wpAnyH_take (i := 3) (v := ?_) rfl (by as_aux_lemma => kernel_rfl) (by as_aux_lemma => kernel_rfl) (by as_aux_lemma => kernel_rfl) (fun _ _ _ h => h) (Or.inl ⟨by rfl, ?_⟩) (by assumption) ?_
  rotate_left
  · (intro w hSw; (try dsimp only at hSw); go_simp); (try with_reducible rfl)
  simp only [List.getElem_toArray, List.getElem_cons_zero, List.getElem_cons_succ, Act.put, List.setIfInBounds_toArray, List.set_cons_zero, List.set_cons_succ]
  refine wpAnyH_take (i := 5) (v := ?_) rfl (by as_aux_lemma => kernel_rfl) (by as_aux_lemma => kernel_rfl) (by as_aux_lemma => kernel_rfl) (fun _ _ _ h => h) (Or.inl ⟨by rfl, ?_⟩) (by assumption) ?_
  rotate_left
  · (intro w hSw; (try dsimp only at hSw); go_simp); (try with_reducible rfl)
  simp only [List.getElem_toArray, List.getElem_cons_zero, List.getElem_cons_succ, Act.put, List.setIfInBounds_toArray, List.set_cons_zero, List.set_cons_succ]
  refine wpAnyH_take (i := 6) (v := ?_) rfl (by as_aux_lemma => kernel_rfl) (by as_aux_lemma => kernel_rfl) (by as_aux_lemma => kernel_rfl) (fun _ _ _ h => h) (Or.inl ⟨by rfl, ?_⟩) (by assumption) ?_
  rotate_left
  · (intro w hSw; (try dsimp only at hSw); go_simp); (try with_reducible rfl)
  simp only [List.getElem_toArray, List.getElem_cons_zero, List.getElem_cons_succ, Act.put, List.setIfInBounds_toArray, List.set_cons_zero, List.set_cons_succ]
  refine wpAnyH_ready (rs := [4]) (by as_aux_lemma => kernel_rfl) (by simp) ?_
  refine AllReadyH.cons rfl (fun K hK => ?_) AllReadyH.nil
  go_simp
  refine (iadd_any _ _ _ la ha lb hb 200 392 (na.ext (Ext.refl V9).drew) (nb.ext (Ext.refl V9).drew) rla rha rlb rhb (by omega) (T.ext (Ext.refl V9).drew)).mono ?_
  rintro _ u1 ⟨vu1, rfl, m1, eu1⟩
  have F1 : Ext V9 u1 := (Ext.refl V9).drew.trans eu1
  refine hK.out _ _ ⟨bx6 (Ba.ext F1), bx6 (Bb.ext F1), box3 (Vd.ext F1), box3 (Ve.ext F1)⟩ (fun hHeld => ?_)
  clear hK K eu1
  refine wpAnyH_ready (rs := [7]) (by as_aux_lemma => kernel_rfl) (by simp) ?_
  refine AllReadyH.cons rfl (fun K hK => ?_) AllReadyH.nil
  go_simp
  refine (raddD_any _ _ _ d e 208 412 (gd.ext F1) (ge.ext F1) rd re (by omega)).mono ?_
  rintro _ u2 ⟨vu2, rfl, m2, eu2⟩
  have F2 : Ext V9 u2 := F1.trans eu2
  replace m1 := m1.ext eu2
  refine hK.out _ _ ⟨bx6 (Ba.ext F2), bx6 (Bb.ext F2), box3 (Vd.ext F2), box3 (Ve.ext F2)⟩ (fun hHeld => ?_)
  clear hK K eu2 F1
  refine wpAnyH_ready (rs := [8]) (by as_aux_lemma => kernel_rfl) (by simp) ?_
  refine AllReadyH.cons rfl (fun K hK => ?_) AllReadyH.nil
  go_simp
  refine (has_lit _ _ _ _ _ _ 200 393 208 413 true HQ.out.1 m1 m2 rs.1 rs.2 rda (by omega) (by omega)).mono ?_
  rintro _ u3 ⟨rfl, eu3⟩
  have F3 : Ext V9 u3 := F2.trans eu3
  replace m1 := m1.ext eu3
  replace m2 := m2.ext eu3
  refine hK.out _ _ ⟨bx6 (Ba.ext F3), bx6 (Bb.ext F3), box3 (Vd.ext F3), box3 (Ve.ext F3)⟩ (fun hHeld => ?_)
  clear hK K eu3 F2
  refine wpAnyH_take (i := 9) (v := ?_) rfl (by as_aux_lemma => kernel_rfl) (by as_aux_lemma => kernel_rfl) (by as_aux_lemma => kernel_rfl) (fun _ _ _ h => h) (Or.inl ⟨by rfl, ?_⟩) (by assumption) ?_
  rotate_left
  · (intro w hSw; (try dsimp only at hSw); go_simp); (try with_reducible rfl)
  simp only [List.getElem_toArray, List.getElem_cons_zero, List.getElem_cons_succ, Act.put, List.setIfInBounds_toArray, List.set_cons_zero, List.set_cons_succ]
  refine wpAnyH_take (i := 10) (v := ?_) rfl (by as_aux_lemma => kernel_rfl) (by as_aux_lemma => kernel_rfl) (by as_aux_lemma => kernel_rfl) (fun _ _ _ h => h) (Or.inl ⟨by rfl, ?_⟩) (by assumption) ?_
  rotate_left
  · (intro w hSw; (try dsimp only at hSw); go_simp); (try with_reducible rfl)
  simp only [List.getElem_toArray, List.getElem_cons_zero, List.getElem_cons_succ, Act.put, List.setIfInBounds_toArray, List.set_cons_zero, List.set_cons_succ]
  refine wpAnyH_take (i := 11) (v := ?_) rfl (by as_aux_lemma => kernel_rfl) (by as_aux_lemma => kernel_rfl) (by as_aux_lemma => kernel_rfl) (fun _ _ _ h => h) (Or.inl ⟨by rfl, ?_⟩) (by assumption) ?_
  rotate_left
  · (intro w hSw; (try dsimp only at hSw); go_simp); (try with_reducible rfl)
  simp only [List.getElem_toArray, List.getElem_cons_zero, List.getElem_cons_succ, Act.put, List.setIfInBounds_toArray, List.set_cons_zero, List.set_cons_succ]
  refine wpAnyH_take (i := 12) (v := ?_) rfl (by as_aux_lemma => kernel_rfl) (by as_aux_lemma => kernel_rfl) (by as_aux_lemma => kernel_rfl) (fun _ _ _ h => h) (Or.inl ⟨by rfl, ?_⟩) (by assumption) ?_
  rotate_left
  · (intro w hSw; (try dsimp only at hSw); go_simp); (try with_reducible rfl)
  simp only [List.getElem_toArray, List.getElem_cons_zero, List.getElem_cons_succ, Act.put, List.setIfInBounds_toArray, List.set_cons_zero, List.set_cons_succ]
  refine wpAnyH_take (i := 14) (v := ?_) rfl (by as_aux_lemma => kernel_rfl) (by as_aux_lemma => kernel_rfl) (by as_aux_lemma => kernel_rfl) (fun _ _ _ h => h) (Or.inl ⟨by rfl, ?_⟩) (by assumption) ?_
  rotate_left
  · (intro w hSw; (try dsimp only at hSw); go_simp); (try with_reducible rfl)
  simp only [List.getElem_toArray, List.getElem_cons_zero, List.getElem_cons_succ, Act.put, List.setIfInBounds_toArray, List.set_cons_zero, List.set_cons_succ]
  refine wpAnyH_take (i := 15) (v := ?_) rfl (by as_aux_lemma => kernel_rfl) (by as_aux_lemma => kernel_rfl) (by as_aux_lemma => kernel_rfl) (fun _ _ _ h => h) (Or.inl ⟨by rfl, ?_⟩) (by assumption) ?_
  rotate_left
  · (intro w hSw; (try dsimp only at hSw); go_simp); (try with_reducible rfl)
  simp only [List.getElem_toArray, List.getElem_cons_zero, List.getElem_cons_succ, Act.put, List.setIfInBounds_toArray, List.set_cons_zero, List.set_cons_succ]
  refine wpAnyH_ready (rs := [13]) (by as_aux_lemma => kernel_rfl) (by simp) ?_
  refine AllReadyH.cons rfl (fun K hK => ?_) AllReadyH.nil
  go_simp
  refine (imul_any _ _ _ la ha lb hb 200 392 200 392 (na.ext F3) (nb.ext F3) rla rha rlb rhb (by omega) (T.ext F3)).mono ?_
  rintro _ u4 ⟨vu4, rfl, m4, eu4⟩
  have F4 : Ext V9 u4 := F3.trans eu4
  refine hK.out _ _ ⟨bx6 (Ba.ext F4), bx6 (Bb.ext F4), box3 (Vd.ext F4), box3 (Ve.ext F4)⟩ (fun hHeld => ?_)
  clear hK K eu4 F3 m1 m2
  refine wpAnyH_ready (rs := [16]) (by as_aux_lemma => kernel_rfl) (by simp) ?_
  refine AllReadyH.cons rfl (fun K hK => ?_) AllReadyH.nil
  go_simp
  refine (rmulD_any _ _ _ d e 208 412 208 412 (gd.ext F4) (ge.ext F4) rd re (by omega) (by omega)).mono ?_
  rintro _ u5 ⟨vu5, rfl, m5, eu5⟩
  have F5 : Ext V9 u5 := F4.trans eu5
  replace m4 := m4.ext eu5
  refine hK.out _ _ ⟨bx6 (Ba.ext F5), bx6 (Bb.ext F5), box3 (Vd.ext F5), box3 (Ve.ext F5)⟩ (fun hHeld => ?_)
  clear hK K eu5 F4
  refine wpAnyH_ready (rs := [17]) (by as_aux_lemma => kernel_rfl) (by simp) ?_
  refine AllReadyH.cons rfl (fun K hK => ?_) AllReadyH.nil
  go_simp
  refine (has_lit _ _ _ _ _ _ 400 784 416 824 true HQ.out.2.1 m4 m5 rm.1 rm.2 rde (by omega) (by omega)).mono ?_
  rintro _ u6 ⟨rfl, eu6⟩
  have F6 : Ext V9 u6 := F5.trans eu6
  replace m4 := m4.ext eu6
  replace m5 := m5.ext eu6
  refine hK.out _ _ ⟨bx6 (Ba.ext F6), bx6 (Bb.ext F6), box3 (Vd.ext F6), box3 (Ve.ext F6)⟩ (fun hHeld => ?_)
  clear hK K eu6 F5
  refine wpAnyH_take (i := 18) (v := ?_) rfl (by as_aux_lemma => kernel_rfl) (by as_aux_lemma => kernel_rfl) (by as_aux_lemma => kernel_rfl) (fun _ _ _ h => h) (Or.inl ⟨by rfl, ?_⟩) (by assumption) ?_
  rotate_left
  · (intro w hSw; (try dsimp only at hSw); go_simp); (try with_reducible rfl)
  simp only [List.getElem_toArray, List.getElem_cons_zero, List.getElem_cons_succ, Act.put, List.setIfInBounds_toArray, List.set_cons_zero, List.set_cons_succ]
  refine wpAnyH_take (i := 19) (v := ?_) rfl (by as_aux_lemma => kernel_rfl) (by as_aux_lemma => kernel_rfl) (by as_aux_lemma => kernel_rfl) (fun _ _ _ h => h) (Or.inl ⟨by rfl, ?_⟩) (by assumption) ?_
  rotate_left
  · (intro w hSw; (try dsimp only at hSw); go_simp); (try with_reducible rfl)
  simp only [List.getElem_toArray, List.getElem_cons_zero, List.getElem_cons_succ, Act.put, List.setIfInBounds_toArray, List.set_cons_zero, List.set_cons_succ]
  refine wpAnyH_take (i := 20) (v := ?_) rfl (by as_aux_lemma => kernel_rfl) (by as_aux_lemma => kernel_rfl) (by as_aux_lemma => kernel_rfl) (fun _ _ _ h => h) (Or.inl ⟨by rfl, ?_⟩) (by assumption) ?_
  rotate_left
  · (intro w hSw; (try dsimp only at hSw); go_simp); (try with_reducible rfl)
  simp only [List.getElem_toArray, List.getElem_cons_zero, List.getElem_cons_succ, Act.put, List.setIfInBounds_toArray, List.set_cons_zero, List.set_cons_succ]
  refine wpAnyH_take (i := 22) (v := ?_) rfl (by as_aux_lemma => kernel_rfl) (by as_aux_lemma => kernel_rfl) (by as_aux_lemma => kernel_rfl) (fun _ _ _ h => h) (Or.inl ⟨by rfl, ?_⟩) (by assumption) ?_
  rotate_left
  · (intro w hSw; (try dsimp only at hSw); go_simp); (try with_reducible rfl)
  simp only [List.getElem_toArray, List.getElem_cons_zero, List.getElem_cons_succ, Act.put, List.setIfInBounds_toArray, List.set_cons_zero, List.set_cons_succ]
  refine wpAnyH_ready (rs := [21]) (by as_aux_lemma => kernel_rfl) (by simp) ?_
  refine AllReadyH.cons rfl (fun K hK => ?_) AllReadyH.nil
  go_simp
  refine (iflip_any _ _ la ha 200 392 (na.ext F6) rla rha (by omega) (T.ext F6)).mono ?_
  rintro _ u7 ⟨vu7, rfl, m7, eu7⟩
  have F7 : Ext V9 u7 := F6.trans eu7
  refine hK.out _ _ ⟨bx6 (Ba.ext F7), bx6 (Bb.ext F7), box3 (Vd.ext F7), box3 (Ve.ext F7)⟩ (fun hHeld => ?_)
  clear hK K eu7 F6 m4 m5
  refine wpAnyH_ready (rs := [23]) (by as_aux_lemma => kernel_rfl) (by simp) ?_
  refine AllReadyH.cons rfl (fun K hK => ?_) AllReadyH.nil
  go_simp
  refine (rflip_any _ _ d (gd.ext F7)).mono ?_
  rintro _ u8 ⟨vu8, rfl, m8, eu8⟩
  have F8 : Ext V9 u8 := F7.trans eu8
  replace m7 := m7.ext eu8
  refine hK.out _ _ ⟨bx6 (Ba.ext F8), bx6 (Bb.ext F8), box3 (Vd.ext F8), box3 (Ve.ext F8)⟩ (fun hHeld => ?_)
  clear hK K eu8 F7
  refine wpAnyH_ready (rs := [24]) (by as_aux_lemma => kernel_rfl) (by simp) ?_
  refine AllReadyH.cons rfl (fun K hK => ?_) AllReadyH.nil
  go_simp
  refine (has_lit _ _ _ _ _ _ 200 392 208 412 true HQ.out.2.2.1 m7 m8 rha.neg rla.neg rd.neg (by omega) (by omega)).mono ?_
  rintro _ u9 ⟨rfl, eu9⟩
  have F9 : Ext V9 u9 := F8.trans eu9
  replace m7 := m7.ext eu9
  replace m8 := m8.ext eu9
  refine hK.out _ _ ⟨bx6 (Ba.ext F9), bx6 (Bb.ext F9), box3 (Vd.ext F9), box3 (Ve.ext F9)⟩ (fun hHeld => ?_)
  clear hK K eu9 F8
  refine wpAnyH_take (i := 25) (v := ?_) rfl (by as_aux_lemma => kernel_rfl) (by as_aux_lemma => kernel_rfl) (by as_aux_lemma => kernel_rfl) (fun _ _ _ h => h) (Or.inl ⟨by rfl, ?_⟩) (by assumption) ?_
  rotate_left
  · (intro w hSw; (try dsimp only at hSw); go_simp); (try with_reducible rfl)
  simp only [List.getElem_toArray, List.getElem_cons_zero, List.getElem_cons_succ, Act.put, List.setIfInBounds_toArray, List.set_cons_zero, List.set_cons_succ]
  refine wpAnyH_take (i := 26) (v := ?_) rfl (by as_aux_lemma => kernel_rfl) (by as_aux_lemma => kernel_rfl) (by as_aux_lemma => kernel_rfl) (fun _ _ _ h => h) (Or.inl ⟨by rfl, ?_⟩) (by assumption) ?_
  rotate_left
  · (intro w hSw; (try dsimp only at hSw); go_simp); (try with_reducible rfl)
  simp only [List.getElem_toArray, List.getElem_cons_zero, List.getElem_cons_succ, Act.put, List.setIfInBounds_toArray, List.set_cons_zero, List.set_cons_succ]
  refine wpAnyH_take (i := 27) (v := ?_) rfl (by as_aux_lemma => kernel_rfl) (by as_aux_lemma => kernel_rfl) (by as_aux_lemma => kernel_rfl) (fun _ _ _ h => h) (Or.inl ⟨by rfl, ?_⟩) (by assumption) ?_
  rotate_left
  · (intro w hSw; (try dsimp only at hSw); go_simp); (try with_reducible rfl)
  simp only [List.getElem_toArray, List.getElem_cons_zero, List.getElem_cons_succ, Act.put, List.setIfInBounds_toArray, List.set_cons_zero, List.set_cons_succ]
  refine wpAnyH_take (i := 28) (v := ?_) rfl (by as_aux_lemma => kernel_rfl) (by as_aux_lemma => kernel_rfl) (by as_aux_lemma => kernel_rfl) (fun _ _ _ h => h) (Or.inl ⟨by rfl, ?_⟩) (by assumption) ?_
  rotate_left
  · (intro w hSw; (try dsimp only at hSw); go_simp); (try with_reducible rfl)
  simp only [List.getElem_toArray, List.getElem_cons_zero, List.getElem_cons_succ, Act.put, List.setIfInBounds_toArray, List.set_cons_zero, List.set_cons_succ]
  refine wpAnyH_take (i := 30) (v := ?_) rfl (by as_aux_lemma => kernel_rfl) (by as_aux_lemma => kernel_rfl) (by as_aux_lemma => kernel_rfl) (fun _ _ _ h => h) (Or.inl ⟨by rfl, ?_⟩) (by assumption) ?_
  rotate_left
  · (intro w hSw; (try dsimp only at hSw); go_simp); (try with_reducible rfl)
  simp only [List.getElem_toArray, List.getElem_cons_zero, List.getElem_cons_succ, Act.put, List.setIfInBounds_toArray, List.set_cons_zero, List.set_cons_succ]
  refine wpAnyH_take (i := 31) (v := ?_) rfl (by as_aux_lemma => kernel_rfl) (by as_aux_lemma => kernel_rfl) (by as_aux_lemma => kernel_rfl) (fun _ _ _ h => h) (Or.inl ⟨by rfl, ?_⟩) (by assumption) ?_
  rotate_left
  · (intro w hSw; (try dsimp only at hSw); go_simp); (try with_reducible rfl)
  simp only [List.getElem_toArray, List.getElem_cons_zero, List.getElem_cons_succ, Act.put, List.setIfInBounds_toArray, List.set_cons_zero, List.set_cons_succ]
  refine wpAnyH_ready (rs := [29]) (by as_aux_lemma => kernel_rfl) (by simp) ?_
  refine AllReadyH.cons rfl (fun K hK => ?_) AllReadyH.nil
  go_simp
  refine (ishift_any _ _ la ha k 200 392 (na.ext F9) rla rha (by omega) (by omega) (T.ext F9)).mono ?_
  rintro _ u10 ⟨vu10, rfl, m10, eu10⟩
  have F10 : Ext V9 u10 := F9.trans eu10
  refine hK.out _ _ ⟨bx6 (Ba.ext F10), bx6 (Bb.ext F10), box3 (Vd.ext F10), box3 (Ve.ext F10)⟩ (fun hHeld => ?_)
  clear hK K eu10 F9 m7 m8
  refine wpAnyH_ready (rs := [32]) (by as_aux_lemma => kernel_rfl) (by simp) ?_
  refine AllReadyH.cons rfl (fun K hK => ?_) AllReadyH.nil
  go_simp
  refine (rshiftx_any _ _ d k 208 412 (gd.ext F10) rd (by omega) (by omega)).mono ?_
  rintro _ u11 ⟨vu11, rfl, m11, eu11⟩
  have F11 : Ext V9 u11 := F10.trans eu11
  replace m10 := m10.ext eu11
  refine hK.out _ _ ⟨bx6 (Ba.ext F11), bx6 (Bb.ext F11), box3 (Vd.ext F11), box3 (Ve.ext F11)⟩ (fun hHeld => ?_)
  clear hK K eu11 F10
  refine wpAnyH_ready (rs := [33]) (by as_aux_lemma => kernel_rfl) (by simp) ?_
  refine AllReadyH.cons rfl (fun K hK => ?_) AllReadyH.nil
  go_simp
  refine (has_lit _ _ _ _ _ _ 700 893 708 913 true HQ.out.2.2.2.1 m10 m11 rt.1 rt.2 rdk (by omega) (by omega)).mono ?_
  rintro _ u12 ⟨rfl, eu12⟩
  have F12 : Ext V9 u12 := F11.trans eu12
  replace m10 := m10.ext eu12
  replace m11 := m11.ext eu12
  refine hK.out _ _ ⟨bx6 (Ba.ext F12), bx6 (Bb.ext F12), box3 (Vd.ext F12), box3 (Ve.ext F12)⟩ (fun hHeld => ?_)
  clear hK K eu12 F11
  refine wpAnyH_take (i := 34) (v := ?_) rfl (by as_aux_lemma => kernel_rfl) (by as_aux_lemma => kernel_rfl) (by as_aux_lemma => kernel_rfl) (fun _ _ _ h => h) (Or.inl ⟨by rfl, ?_⟩) (by assumption) ?_
  rotate_left
  · (intro w hSw; (try dsimp only at hSw); go_simp); (try with_reducible rfl)
  simp only [List.getElem_toArray, List.getElem_cons_zero, List.getElem_cons_succ, Act.put, List.setIfInBounds_toArray, List.set_cons_zero, List.set_cons_succ]
  refine wpAnyH_take (i := 35) (v := ?_) rfl (by as_aux_lemma => kernel_rfl) (by as_aux_lemma => kernel_rfl) (by as_aux_lemma => kernel_rfl) (fun _ _ _ h => h) (Or.inl ⟨by rfl, ?_⟩) (by assumption) ?_
  rotate_left
  · (intro w hSw; (try dsimp only at hSw); go_simp); (try with_reducible rfl)
  simp only [List.getElem_toArray, List.getElem_cons_zero, List.getElem_cons_succ, Act.put, List.setIfInBounds_toArray, List.set_cons_zero, List.set_cons_succ]
  refine wpAnyH_take (i := 36) (v := ?_) rfl (by as_aux_lemma => kernel_rfl) (by as_aux_lemma => kernel_rfl) (by as_aux_lemma => kernel_rfl) (fun _ _ _ h => h) (Or.inl ⟨by rfl, ?_⟩) (by assumption) ?_
  rotate_left
  · (intro w hSw; (try dsimp only at hSw); go_simp); (try with_reducible rfl)
  simp only [List.getElem_toArray, List.getElem_cons_zero, List.getElem_cons_succ, Act.put, List.setIfInBounds_toArray, List.set_cons_zero, List.set_cons_succ]
  refine wpAnyH_take (i := 37) (v := ?_) rfl (by as_aux_lemma => kernel_rfl) (by as_aux_lemma => kernel_rfl) (by as_aux_lemma => kernel_rfl) (fun _ _ _ h => h) (Or.inl ⟨by rfl, ?_⟩) (by assumption) ?_
  rotate_left
  · (intro w hSw; (try dsimp only at hSw); go_simp); (try with_reducible rfl)
  simp only [List.getElem_toArray, List.getElem_cons_zero, List.getElem_cons_succ, Act.put, List.setIfInBounds_toArray, List.set_cons_zero, List.set_cons_succ]
  refine wpAnyH_ready (rs := [38]) (by as_aux_lemma => kernel_rfl) (by simp) ?_
  refine AllReadyH.cons rfl (fun K hK => ?_) AllReadyH.nil
  go_simp
  refine (has_lit _ _ _ _ _ _ 200 392 208 412 true HQ.out.2.2.2.2 (na.ext F12) (gd.ext F12) rla rha rd (by omega) (by omega)).mono ?_
  rintro _ u13 ⟨rfl, eu13⟩
  have F13 : Ext V9 u13 := F12.trans eu13
  refine hK.out _ _ ⟨bx6 (Ba.ext F13), bx6 (Bb.ext F13), box3 (Vd.ext F13), box3 (Ve.ext F13)⟩ (fun hHeld => ?_)
  clear hK K eu13 F12 m10 m11
  refine wpAnyH_take (i := 39) (v := ?_) rfl (by as_aux_lemma => kernel_rfl) (by as_aux_lemma => kernel_rfl) (by as_aux_lemma => kernel_rfl) (fun _ _ _ h => h) (Or.inl ⟨by rfl, ?_⟩) (by assumption) ?_
  rotate_left
  · (intro w hSw; (try dsimp only at hSw); go_simp); (try with_reducible rfl)
  simp only [List.getElem_toArray, List.getElem_cons_zero, List.getElem_cons_succ, Act.put, List.setIfInBounds_toArray, List.set_cons_zero, List.set_cons_succ]
  refine wpAnyH_take (i := 40) (v := ?_) rfl (by as_aux_lemma => kernel_rfl) (by as_aux_lemma => kernel_rfl) (by as_aux_lemma => kernel_rfl) (fun _ _ _ h => h) (Or.inl ⟨by rfl, ?_⟩) (by assumption) ?_
  rotate_left
  · (intro w hSw; (try dsimp only at hSw); go_simp); (try with_reducible rfl)
  simp only [List.getElem_toArray, List.getElem_cons_zero, List.getElem_cons_succ, Act.put, List.setIfInBounds_toArray, List.set_cons_zero, List.set_cons_succ]
  refine wpAnyH_done (by as_aux_lemma => kernel_rfl) ?_ _
  go_wp2
  go_ret
  exact ⟨rfl, EV9.trans F13⟩
theorem walk_IvlKept (w : World) (T : Tb w) (nba : Bool) (Ma : Value) (xa : List Int) (ia : Int) (rowa : Row w Ma xa) (bda : -9223372036854775808 ≤ ia ∧ ia ≤ 9223372036854775807) (nba' : Bool) (Ma' : Value) (xa' : List Int) (ia' : Int) (rowa' : Row w Ma' xa') (bda' : -9223372036854775808 ≤ ia' ∧ ia' ≤ 9223372036854775807) (nbb : Bool) (Mb : Value) (xb : List Int) (ib : Int) (rowb : Row w Mb xb) (bdb : -9223372036854775808 ≤ ib ∧ ib ≤ 9223372036854775807) (nbb' : Bool) (Mb' : Value) (xb' : List Int) (ib' : Int) (rowb' : Row w Mb' xb') (bdb' : -9223372036854775808 ≤ ib' ∧ ib' ≤ 9223372036854775807) (x : Int) (bx : 0 ≤ x ∧ x ≤ 255) (y : Int) (by_ : 0 ≤ y ∧ y ≤ 255) (k : Int) (bk : -9223372036854775808 ≤ k ∧ k ≤ 9223372036854775807) : Calls Tryd.prog 3 #[.agg #[.bool nba, Ma, .int .i64 ia, .bool nba', Ma', .int .i64 ia'], .agg #[.bool nbb, Mb, .int .i64 ib, .bool nbb', Mb', .int .i64 ib'], .int .u8 x, .int .u8 y, .int .i64 k] w (RetE w (.bool true)) := by
  cases hg : goodIs 2 (pk nba nbb nbb) (pk xa xb xb) (pk ia ib ib) (pk nba' nbb' nbb') (pk xa' xb' xb') (pk ia' ib' ib')
  · exact kept_no w T nba Ma xa ia rowa bda nba' Ma' xa' ia' rowa' bda' nbb Mb xb ib rowb bdb nbb' Mb' xb' ib' rowb' bdb' x bx y by_ k bk hg
  ·
    have hall := pk6_all (goodIs_true hg)
    obtain ⟨la, ha, na, oa, rla, rha⟩ := good_ivl rowa rowa' (hall.1 (by omega))
    obtain ⟨lb, hb, nb, ob, rlb, rhb⟩ := good_ivl rowb rowb' (hall.2.1 (by omega))
    by_cases h1 : k < -500
    · exact kept_low w T nba Ma xa ia rowa bda nba' Ma' xa' ia' rowa' bda' nbb Mb xb ib rowb bdb nbb' Mb' xb' ib' rowb' bdb' x bx y by_ k bk hg la ha na oa rla rha lb hb nb ob rlb rhb h1
    · by_cases h2 : 500 < k
      · exact kept_high w T nba Ma xa ia rowa bda nba' Ma' xa' ia' rowa' bda' nbb Mb xb ib rowb bdb nbb' Mb' xb' ib' rowb' bdb' x bx y by_ k bk hg la ha na oa rla rha lb hb nb ob rlb rhb h1 h2
      · exact kept_yes w T nba Ma xa ia rowa bda nba' Ma' xa' ia' rowa' bda' nbb Mb xb ib rowb bdb nbb' Mb' xb' ib' rowb' bdb' x bx y by_ k bk hg la ha na oa rla rha lb hb nb ob rlb rhb h1 h2
end Go.Proofs.YtimdglgianheiaaDoor
