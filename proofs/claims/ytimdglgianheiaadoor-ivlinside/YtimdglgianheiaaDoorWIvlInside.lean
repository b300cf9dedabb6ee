/- The walk of IvlInside. -/
import Derived.Test.YtimdglgianheiaaDoorPE
namespace Go.Proofs.YtimdglgianheiaaDoor
open Go.RowKit
set_option linter.unusedVariables false
set_option maxRecDepth 100000 in
set_option maxHeartbeats 4000000 in
theorem inside_no (w : World) (T : Tb w) (nba : Bool) (Ma : Value) (xa : List Int) (ia : Int) (rowa : Row w Ma xa) (bda : -9223372036854775808 ≤ ia ∧ ia ≤ 9223372036854775807) (nba' : Bool) (Ma' : Value) (xa' : List Int) (ia' : Int) (rowa' : Row w Ma' xa') (bda' : -9223372036854775808 ≤ ia' ∧ ia' ≤ 9223372036854775807) (nbb : Bool) (Mb : Value) (xb : List Int) (ib : Int) (rowb : Row w Mb xb) (bdb : -9223372036854775808 ≤ ib ∧ ib ≤ 9223372036854775807) (nbb' : Bool) (Mb' : Value) (xb' : List Int) (ib' : Int) (rowb' : Row w Mb' xb') (bdb' : -9223372036854775808 ≤ ib' ∧ ib' ≤ 9223372036854775807) (nbc : Bool) (Mc : Value) (xc : List Int) (ic : Int) (rowc : Row w Mc xc) (bdc : -9223372036854775808 ≤ ic ∧ ic ≤ 9223372036854775807) (nbc' : Bool) (Mc' : Value) (xc' : List Int) (ic' : Int) (rowc' : Row w Mc' xc') (bdc' : -9223372036854775808 ≤ ic' ∧ ic' ≤ 9223372036854775807) (n : Int) (bn : 0 ≤ n ∧ n ≤ 255) (hg : goodIs 3 (pk nba nbb nbc) (pk xa xb xc) (pk ia ib ic) (pk nba' nbb' nbc') (pk xa' xb' xc') (pk ia' ib' ic') = false) :
    Calls Tryd.prog 5 #[.agg #[.bool nba, Ma, .int .i64 ia, .bool nba', Ma', .int .i64 ia'], .agg #[.bool nbb, Mb, .int .i64 ib, .bool nbb', Mb', .int .i64 ib'], .agg #[.bool nbc, Mc, .int .i64 ic, .bool nbc', Mc', .int .i64 ic'], .int .u8 n] w (RetE w (.bool true)) := by
  go_enter Tryd.func5, Tryd.ntmps5
  go_wp2_with fail
  refine (headI_any _ (T.ext ((((Ext.refl w).alloc _).alloc _).alloc _))).mono ?_
  rintro _ w1 ⟨rfl, f1⟩
  have Ba : Bx w1 (w.heap.size) (.bool nba) (Ma) (.int .i64 ia) (.bool nba') (Ma') (.int .i64 ia') := Bx.at ((((Ext.refl _).alloc _).alloc _).trans f1) (by simp)
  have Bb : Bx w1 (w.heap.size + 1) (.bool nbb) (Mb) (.int .i64 ib) (.bool nbb') (Mb') (.int .i64 ib') := Bx.at (((Ext.refl _).alloc _).trans f1) (by simp)
  have Bc : Bx w1 (w.heap.size + 1 + 1) (.bool nbc) (Mc) (.int .i64 ic) (.bool nbc') (Mc') (.int .i64 ic') := Bx.at ((Ext.refl _).trans f1) (by simp)
  have e1 : Ext w w1 := ((((Ext.refl w).alloc _).alloc _).alloc _).trans f1
  replace T := T.ext e1
  replace rowa := rowa.ext e1
  replace rowa' := rowa'.ext e1
  replace rowb := rowb.ext e1
  replace rowb' := rowb'.ext e1
  replace rowc := rowc.ext e1
  replace rowc' := rowc'.ext e1
  have E1 : Ext w w1 := e1
  clear f1
  obtain ⟨Ba_0, Ba_1, Ba_2, Ba_3, Ba_4, Ba_5⟩ := id Ba
  have Ba_l := World.block_lt_of_cell? _ _ Ba_0
  obtain ⟨Bb_0, Bb_1, Bb_2, Bb_3, Bb_4, Bb_5⟩ := id Bb
  have Bb_l := World.block_lt_of_cell? _ _ Bb_0
  obtain ⟨Bc_0, Bc_1, Bc_2, Bc_3, Bc_4, Bc_5⟩ := id Bc
  have Bc_l := World.block_lt_of_cell? _ _ Bc_0
  have HG := Lib.hid (good5_any _ _ 3 3 _ _ _ _ _ _ _ _ (by omega) (manyI3 w1 26 nba nbb nbc Ma Mb Mc xa xb xc ia ib ic rowa rowb rowc bda bdb bdc nba' nbb' nbc' Ma' Mb' Mc' xa' xb' xc' ia' ib' ic' rowa' rowb' rowc' bda' bdb' bdc'))
  rw [hg] at HG
  clear hg
  go_wp2_with fail
  refine (HG.out).mono ?_
  rintro _ w2 ⟨rfl, f2⟩
  clear Ba_0 Ba_1 Ba_2 Ba_3 Ba_4 Ba_5 Ba_l Bb_0 Bb_1 Bb_2 Bb_3 Bb_4 Bb_5 Bb_l Bc_0 Bc_1 Bc_2 Bc_3 Bc_4 Bc_5 Bc_l
  have e2 : Ext w1 w2 := ((Ext.refl w1).alloc _).trans f2
  replace T := T.ext e2
  replace rowa := rowa.ext e2
  replace rowa' := rowa'.ext e2
  replace rowb := rowb.ext e2
  replace rowb' := rowb'.ext e2
  replace rowc := rowc.ext e2
  replace rowc' := rowc'.ext e2
  replace Ba := Ba.ext e2
  replace Bb := Bb.ext e2
  replace Bc := Bc.ext e2
  have E2 : Ext w w2 := E1.trans e2
  clear e2 f2 E1
  clear HG
  go_wp2
  go_ret
  exact ⟨rfl, E2⟩
set_option maxRecDepth 100000 in
set_option maxHeartbeats 4000000 in
theorem inside_out (w : World) (T : Tb w) (nba : Bool) (Ma : Value) (xa : List Int) (ia : Int) (rowa : Row w Ma xa) (bda : -9223372036854775808 ≤ ia ∧ ia ≤ 9223372036854775807) (nba' : Bool) (Ma' : Value) (xa' : List Int) (ia' : Int) (rowa' : Row w Ma' xa') (bda' : -9223372036854775808 ≤ ia' ∧ ia' ≤ 9223372036854775807) (nbb : Bool) (Mb : Value) (xb : List Int) (ib : Int) (rowb : Row w Mb xb) (bdb : -9223372036854775808 ≤ ib ∧ ib ≤ 9223372036854775807) (nbb' : Bool) (Mb' : Value) (xb' : List Int) (ib' : Int) (rowb' : Row w Mb' xb') (bdb' : -9223372036854775808 ≤ ib' ∧ ib' ≤ 9223372036854775807) (nbc : Bool) (Mc : Value) (xc : List Int) (ic : Int) (rowc : Row w Mc xc) (bdc : -9223372036854775808 ≤ ic ∧ ic ≤ 9223372036854775807) (nbc' : Bool) (Mc' : Value) (xc' : List Int) (ic' : Int) (rowc' : Row w Mc' xc') (bdc' : -9223372036854775808 ≤ ic' ∧ ic' ≤ 9223372036854775807) (n : Int) (bn : 0 ≤ n ∧ n ≤ 255) (hg : goodIs 3 (pk nba nbb nbc) (pk xa xb xc) (pk ia ib ic) (pk nba' nbb' nbc') (pk xa' xb' xc') (pk ia' ib' ic') = true) (la ha : Dyadic) (na : In w (.agg #[.bool nba, Ma, .int .i64 ia, .bool nba', Ma', .int .i64 ia']) la ha) (oa : la ≤ ha) (rla : Rg 200 392 la) (rha : Rg 200 392 ha) (lb hb : Dyadic) (nb : In w (.agg #[.bool nbb, Mb, .int .i64 ib, .bool nbb', Mb', .int .i64 ib']) lb hb) (ob : lb ≤ hb) (rlb : Rg 200 392 lb) (rhb : Rg 200 392 hb) (lc hc : Dyadic) (nc : In w (.agg #[.bool nbc, Mc, .int .i64 ic, .bool nbc', Mc', .int .i64 ic']) lc hc) (oc : lc ≤ hc) (rlc : Rg 200 392 lc) (rhc : Rg 200 392 hc) (hi : (hasB lb hb la && hasB lb hb ha) = false) :
    Calls Tryd.prog 5 #[.agg #[.bool nba, Ma, .int .i64 ia, .bool nba', Ma', .int .i64 ia'], .agg #[.bool nbb, Mb, .int .i64 ib, .bool nbb', Mb', .int .i64 ib'], .agg #[.bool nbc, Mc, .int .i64 ic, .bool nbc', Mc', .int .i64 ic'], .int .u8 n] w (RetE w (.bool true)) := by
  go_enter Tryd.func5, Tryd.ntmps5
  go_wp2_with fail
  refine (headI_any _ (T.ext ((((Ext.refl w).alloc _).alloc _).alloc _))).mono ?_
  rintro _ w1 ⟨rfl, f1⟩
  have Ba : Bx w1 (w.heap.size) (.bool nba) (Ma) (.int .i64 ia) (.bool nba') (Ma') (.int .i64 ia') := Bx.at ((((Ext.refl _).alloc _).alloc _).trans f1) (by simp)
  have Bb : Bx w1 (w.heap.size + 1) (.bool nbb) (Mb) (.int .i64 ib) (.bool nbb') (Mb') (.int .i64 ib') := Bx.at (((Ext.refl _).alloc _).trans f1) (by simp)
  have Bc : Bx w1 (w.heap.size + 1 + 1) (.bool nbc) (Mc) (.int .i64 ic) (.bool nbc') (Mc') (.int .i64 ic') := Bx.at ((Ext.refl _).trans f1) (by simp)
  have e1 : Ext w w1 := ((((Ext.refl w).alloc _).alloc _).alloc _).trans f1
  replace T := T.ext e1
  replace rowa := rowa.ext e1
  replace rowa' := rowa'.ext e1
  replace rowb := rowb.ext e1
  replace rowb' := rowb'.ext e1
  replace rowc := rowc.ext e1
  replace rowc' := rowc'.ext e1
  replace na := na.ext e1
  replace nb := nb.ext e1
  replace nc := nc.ext e1
  have E1 : Ext w w1 := e1
  clear f1
  obtain ⟨Ba_0, Ba_1, Ba_2, Ba_3, Ba_4, Ba_5⟩ := id Ba
  have Ba_l := World.block_lt_of_cell? _ _ Ba_0
  obtain ⟨Bb_0, Bb_1, Bb_2, Bb_3, Bb_4, Bb_5⟩ := id Bb
  have Bb_l := World.block_lt_of_cell? _ _ Bb_0
  obtain ⟨Bc_0, Bc_1, Bc_2, Bc_3, Bc_4, Bc_5⟩ := id Bc
  have Bc_l := World.block_lt_of_cell? _ _ Bc_0
  have HG := Lib.hid (good5_any _ _ 3 3 _ _ _ _ _ _ _ _ (by omega) (manyI3 w1 26 nba nbb nbc Ma Mb Mc xa xb xc ia ib ic rowa rowb rowc bda bdb bdc nba' nbb' nbc' Ma' Mb' Mc' xa' xb' xc' ia' ib' ic' rowa' rowb' rowc' bda' bdb' bdc'))
  rw [hg] at HG
  clear hg
  go_wp2_with fail
  refine (HG.out).mono ?_
  rintro _ w2 ⟨rfl, f2⟩
  clear Ba_0 Ba_1 Ba_2 Ba_3 Ba_4 Ba_5 Ba_l Bb_0 Bb_1 Bb_2 Bb_3 Bb_4 Bb_5 Bb_l Bc_0 Bc_1 Bc_2 Bc_3 Bc_4 Bc_5 Bc_l
  have e2 : Ext w1 w2 := ((Ext.refl w1).alloc _).trans f2
  replace T := T.ext e2
  replace rowa := rowa.ext e2
  replace rowa' := rowa'.ext e2
  replace rowb := rowb.ext e2
  replace rowb' := rowb'.ext e2
  replace rowc := rowc.ext e2
  replace rowc' := rowc'.ext e2
  replace na := na.ext e2
  replace nb := nb.ext e2
  replace nc := nc.ext e2
  replace Ba := Ba.ext e2
  replace Bb := Bb.ext e2
  replace Bc := Bc.ext e2
  have E2 : Ext w w2 := E1.trans e2
  clear e2 f2 E1
  clear HG
  clear rowa rowa' rowb rowb' rowc rowc'
  clear bda bda' bdb bdb' bdc bdc'
  obtain ⟨Ba_0, Ba_1, Ba_2, Ba_3, Ba_4, Ba_5⟩ := id Ba
  have Ba_l := World.block_lt_of_cell? _ _ Ba_0
  obtain ⟨Bb_0, Bb_1, Bb_2, Bb_3, Bb_4, Bb_5⟩ := id Bb
  have Bb_l := World.block_lt_of_cell? _ _ Bb_0
  go_wp2_with fail
  refine (inside_lit _ _ _ la ha lb hb 200 392 200 392 false hi na nb rla rha rlb rhb (by omega) (by omega)).mono ?_
  rintro _ w3 ⟨rfl, f3⟩
  clear Ba_0 Ba_1 Ba_2 Ba_3 Ba_4 Ba_5 Ba_l Bb_0 Bb_1 Bb_2 Bb_3 Bb_4 Bb_5 Bb_l
  have e3 : Ext w2 w3 := (Ext.refl w2).trans f3
  replace T := T.ext e3
  replace na := na.ext e3
  replace nb := nb.ext e3
  replace nc := nc.ext e3
  replace Ba := Ba.ext e3
  replace Bb := Bb.ext e3
  replace Bc := Bc.ext e3
  have E3 : Ext w w3 := E2.trans e3
  clear e3 f3 E2
  go_wp2
  go_ret
  exact ⟨rfl, E3⟩
set_option maxRecDepth 100000 in
set_option maxHeartbeats 4000000 in
theorem inside_yy (w : World) (T : Tb w) (nba : Bool) (Ma : Value) (xa : List Int) (ia : Int) (rowa : Row w Ma xa) (bda : -9223372036854775808 ≤ ia ∧ ia ≤ 9223372036854775807) (nba' : Bool) (Ma' : Value) (xa' : List Int) (ia' : Int) (rowa' : Row w Ma' xa') (bda' : -9223372036854775808 ≤ ia' ∧ ia' ≤ 9223372036854775807) (nbb : Bool) (Mb : Value) (xb : List Int) (ib : Int) (rowb : Row w Mb xb) (bdb : -9223372036854775808 ≤ ib ∧ ib ≤ 9223372036854775807) (nbb' : Bool) (Mb' : Value) (xb' : List Int) (ib' : Int) (rowb' : Row w Mb' xb') (bdb' : -9223372036854775808 ≤ ib' ∧ ib' ≤ 9223372036854775807) (nbc : Bool) (Mc : Value) (xc : List Int) (ic : Int) (rowc : Row w Mc xc) (bdc : -9223372036854775808 ≤ ic ∧ ic ≤ 9223372036854775807) (nbc' : Bool) (Mc' : Value) (xc' : List Int) (ic' : Int) (rowc' : Row w Mc' xc') (bdc' : -9223372036854775808 ≤ ic' ∧ ic' ≤ 9223372036854775807) (n : Int) (bn : 0 ≤ n ∧ n ≤ 255) (hg : goodIs 3 (pk nba nbb nbc) (pk xa xb xc) (pk ia ib ic) (pk nba' nbb' nbc') (pk xa' xb' xc') (pk ia' ib' ic') = true) (la ha : Dyadic) (na : In w (.agg #[.bool nba, Ma, .int .i64 ia, .bool nba', Ma', .int .i64 ia']) la ha) (oa : la ≤ ha) (rla : Rg 200 392 la) (rha : Rg 200 392 ha) (lb hb : Dyadic) (nb : In w (.agg #[.bool nbb, Mb, .int .i64 ib, .bool nbb', Mb', .int .i64 ib']) lb hb) (ob : lb ≤ hb) (rlb : Rg 200 392 lb) (rhb : Rg 200 392 hb) (lc hc : Dyadic) (nc : In w (.agg #[.bool nbc, Mc, .int .i64 ic, .bool nbc', Mc', .int .i64 ic']) lc hc) (oc : lc ≤ hc) (rlc : Rg 200 392 lc) (rhc : Rg 200 392 hc) (hi : (hasB lb hb la && hasB lb hb ha) = true) (k : Nat) (hkk : n % 60 + 1 = (k : Int)) (hk1 : 1 ≤ k) (hk2 : k ≤ 60) (za : 0 ≤ la) (zb : 0 ≤ lb) :
    Calls Tryd.prog 5 #[.agg #[.bool nba, Ma, .int .i64 ia, .bool nba', Ma', .int .i64 ia'], .agg #[.bool nbb, Mb, .int .i64 ib, .bool nbb', Mb', .int .i64 ib'], .agg #[.bool nbc, Mc, .int .i64 ic, .bool nbc', Mc', .int .i64 ic'], .int .u8 n] w (RetE w (.bool true)) := by
  go_enter Tryd.func5, Tryd.ntmps5
  go_wp2_with fail
  refine (headI_any _ (T.ext ((((Ext.refl w).alloc _).alloc _).alloc _))).mono ?_
  rintro _ w1 ⟨rfl, f1⟩
  have Ba : Bx w1 (w.heap.size) (.bool nba) (Ma) (.int .i64 ia) (.bool nba') (Ma') (.int .i64 ia') := Bx.at ((((Ext.refl _).alloc _).alloc _).trans f1) (by simp)
  have Bb : Bx w1 (w.heap.size + 1) (.bool nbb) (Mb) (.int .i64 ib) (.bool nbb') (Mb') (.int .i64 ib') := Bx.at (((Ext.refl _).alloc _).trans f1) (by simp)
  have Bc : Bx w1 (w.heap.size + 1 + 1) (.bool nbc) (Mc) (.int .i64 ic) (.bool nbc') (Mc') (.int .i64 ic') := Bx.at ((Ext.refl _).trans f1) (by simp)
  have e1 : Ext w w1 := ((((Ext.refl w).alloc _).alloc _).alloc _).trans f1
  replace T := T.ext e1
  replace rowa := rowa.ext e1
  replace rowa' := rowa'.ext e1
  replace rowb := rowb.ext e1
  replace rowb' := rowb'.ext e1
  replace rowc := rowc.ext e1
  replace rowc' := rowc'.ext e1
  replace na := na.ext e1
  replace nb := nb.ext e1
  replace nc := nc.ext e1
  have E1 : Ext w w1 := e1
  clear f1
  obtain ⟨Ba_0, Ba_1, Ba_2, Ba_3, Ba_4, Ba_5⟩ := id Ba
  have Ba_l := World.block_lt_of_cell? _ _ Ba_0
  obtain ⟨Bb_0, Bb_1, Bb_2, Bb_3, Bb_4, Bb_5⟩ := id Bb
  have Bb_l := World.block_lt_of_cell? _ _ Bb_0
  obtain ⟨Bc_0, Bc_1, Bc_2, Bc_3, Bc_4, Bc_5⟩ := id Bc
  have Bc_l := World.block_lt_of_cell? _ _ Bc_0
  have HG := Lib.hid (good5_any _ _ 3 3 _ _ _ _ _ _ _ _ (by omega) (manyI3 w1 26 nba nbb nbc Ma Mb Mc xa xb xc ia ib ic rowa rowb rowc bda bdb bdc nba' nbb' nbc' Ma' Mb' Mc' xa' xb' xc' ia' ib' ic' rowa' rowb' rowc' bda' bdb' bdc'))
  rw [hg] at HG
  clear hg
  go_wp2_with fail
  refine (HG.out).mono ?_
  rintro _ w2 ⟨rfl, f2⟩
  clear Ba_0 Ba_1 Ba_2 Ba_3 Ba_4 Ba_5 Ba_l Bb_0 Bb_1 Bb_2 Bb_3 Bb_4 Bb_5 Bb_l Bc_0 Bc_1 Bc_2 Bc_3 Bc_4 Bc_5 Bc_l
  have e2 : Ext w1 w2 := ((Ext.refl w1).alloc _).trans f2
  replace T := T.ext e2
  replace rowa := rowa.ext e2
  replace rowa' := rowa'.ext e2
  replace rowb := rowb.ext e2
  replace rowb' := rowb'.ext e2
  replace rowc := rowc.ext e2
  replace rowc' := rowc'.ext e2
  replace na := na.ext e2
  replace nb := nb.ext e2
  replace nc := nc.ext e2
  replace Ba := Ba.ext e2
  replace Bb := Bb.ext e2
  replace Bc := Bc.ext e2
  have E2 : Ext w w2 := E1.trans e2
  clear e2 f2 E1
  clear HG
  clear rowa rowa' rowb rowb' rowc rowc'
  clear bda bda' bdb bdb' bdc bdc'
  have HI := Lib.hid hi
  obtain ⟨i1, i2⟩ := inside_f hi
  clear hi
  obtain ⟨Ba_0, Ba_1, Ba_2, Ba_3, Ba_4, Ba_5⟩ := id Ba
  have Ba_l := World.block_lt_of_cell? _ _ Ba_0
  obtain ⟨Bb_0, Bb_1, Bb_2, Bb_3, Bb_4, Bb_5⟩ := id Bb
  have Bb_l := World.block_lt_of_cell? _ _ Bb_0
  go_wp2_with fail
  refine (inside_lit _ _ _ la ha lb hb 200 392 200 392 true HI.out na nb rla rha rlb rhb (by omega) (by omega)).mono ?_
  rintro _ w3 ⟨rfl, f3⟩
  clear Ba_0 Ba_1 Ba_2 Ba_3 Ba_4 Ba_5 Ba_l Bb_0 Bb_1 Bb_2 Bb_3 Bb_4 Bb_5 Bb_l
  have e3 : Ext w2 w3 := (Ext.refl w2).trans f3
  replace T := T.ext e3
  replace na := na.ext e3
  replace nb := nb.ext e3
  replace nc := nc.ext e3
  replace Ba := Ba.ext e3
  replace Bb := Bb.ext e3
  replace Bc := Bc.ext e3
  have E3 : Ext w w3 := E2.trans e3
  clear e3 f3 E2
  clear HI
  have pa : Rg 200 393 la ∧ Rg 200 393 ha := ⟨rla.mono (by omega) (by omega), rha.mono (by omega) (by omega)⟩
  have ya : 0 ≤ ha := by grind
  obtain ⟨a1, a2, a3, a4⟩ := root_rg za rla hk1 hk2
  obtain ⟨a5, a6, a7, a8⟩ := root_rg ya rha hk1 hk2
  have ta := a1.hi a6 oa
  have yb : 0 ≤ hb := by grind
  obtain ⟨b1, b2, b3, b4⟩ := root_rg zb rlb hk1 hk2
  obtain ⟨b5, b6, b7, b8⟩ := root_rg yb rhb hk1 hk2
  have tb := b1.hi b6 ob
  have HQ := Lib.hid (And.intro (inside_t (show lb + lc ≤ la + lc by grind) (show la + lc ≤ ha + hc by grind) (show ha + hc ≤ hb + hc by grind)) (And.intro (inside_t (mul_inside i1 oa i2 oc).1 (mlo_mhi oa oc) (mul_inside i1 oa i2 oc).2) (And.intro (inside_t ((clo_spec lb hk1).mono (clo_spec la hk1) i1) (show clo k la ≤ chi k ha by have := (clo_spec la hk1).le; have := (chi_spec ha hk1).ge; grind) ((chi_spec ha hk1).mono (chi_spec hb hk1) i2)) (And.intro (inside_t (clo_spec la hk1).le oa (chi_spec ha hk1).ge) (And.intro (decide_eq_true ta) (And.intro (decide_eq_true tb) (inside_t (b1.mono a1 i1) ta (a6.mono b6 i2))))))))
  have rs := And.intro (rla.add rlc) (And.intro (rha.add rhc) (And.intro (rlb.add rlc) (rhb.add rhc)))
  have rm := And.intro (rg_mul4 rla rha rlc rhc) (rg_mul4 rlb rhb rlc rhc)
  have rc := And.intro (clo_rg rla hk1) (And.intro (chi_rg rha hk1) (And.intro (clo_rg rlb hk1) (chi_rg rhb hk1)))
  clear a1 a2 a5 a6 a4 a7 ta
  clear b1 b2 b5 b6 b4 b7 tb
  clear i1 i2 oa ob oc
  obtain ⟨Ba_0, Ba_1, Ba_2, Ba_3, Ba_4, Ba_5⟩ := id Ba
  have Ba_l := World.block_lt_of_cell? _ _ Ba_0
  go_wp2_with fail
  refine (iroot_yes _ _ la ha _ k 200 392 (by first | rfl | omega) na za ya rla rha (by omega) hk1 (by omega) T).mono ?_
  rintro _ w4 ⟨v4, rfl, ir, f4⟩
  clear Ba_0 Ba_1 Ba_2 Ba_3 Ba_4 Ba_5 Ba_l
  have e4 : Ext w3 w4 := (Ext.refl w3).trans f4
  replace T := T.ext e4
  replace na := na.ext e4
  replace nb := nb.ext e4
  replace nc := nc.ext e4
  replace Ba := Ba.ext e4
  replace Bb := Bb.ext e4
  replace Bc := Bc.ext e4
  have E4 : Ext w w4 := E3.trans e4
  clear e4 f4 E3
  obtain ⟨bir, Air, lir, cir, jir, bir', Air', lir', cir', jir', rfl, ir_l, ir_h⟩ := ir
  have ir := In.mk ir_l ir_h
  clear ir_l ir_h
  obtain ⟨Bb_0, Bb_1, Bb_2, Bb_3, Bb_4, Bb_5⟩ := id Bb
  have Bb_l := World.block_lt_of_cell? _ _ Bb_0
  go_wp2_with fail
  refine (iroot_yes _ _ lb hb _ k 200 392 (by first | rfl | omega) (nb.ext ((Ext.refl w4).alloc _)) zb yb rlb rhb (by omega) hk1 (by omega) (T.ext ((Ext.refl w4).alloc _))).mono ?_
  rintro _ w5 ⟨v5, rfl, iq, f5⟩
  clear Bb_0 Bb_1 Bb_2 Bb_3 Bb_4 Bb_5 Bb_l
  have Vir : Bx w5 (w4.heap.size) (.bool bir) (.slice Air lir cir) (.int .i64 jir) (.bool bir') (.slice Air' lir' cir') (.int .i64 jir') := Bx.at ((Ext.refl _).trans f5) (by simp)
  have e5 : Ext w4 w5 := ((Ext.refl w4).alloc _).trans f5
  replace T := T.ext e5
  replace na := na.ext e5
  replace nb := nb.ext e5
  replace nc := nc.ext e5
  replace ir := ir.ext e5
  replace Ba := Ba.ext e5
  replace Bb := Bb.ext e5
  replace Bc := Bc.ext e5
  have E5 : Ext w w5 := E4.trans e5
  clear e5 f5 E4
  obtain ⟨biq, Aiq, liq, ciq, jiq, biq', Aiq', liq', ciq', jiq', rfl, iq_l, iq_h⟩ := iq
  have iq := In.mk iq_l iq_h
  clear iq_l iq_h
  obtain ⟨Vir_0, Vir_1, Vir_2, Vir_3, Vir_4, Vir_5⟩ := id Vir
  have Vir_l := World.block_lt_of_cell? _ _ Vir_0
  go_wp2_with fail
  refine (riright_lit _ _ _ _ 260 1046 true (HQ.out.2.2.2.2.1) (ir.ext ((Ext.refl w5).alloc _)) a3 a8 (by omega)).mono ?_
  rintro _ w6 ⟨rfl, f6⟩
  clear Vir_0 Vir_1 Vir_2 Vir_3 Vir_4 Vir_5 Vir_l
  have Viq : Bx w6 (w5.heap.size) (.bool biq) (.slice Aiq liq ciq) (.int .i64 jiq) (.bool biq') (.slice Aiq' liq' ciq') (.int .i64 jiq') := Bx.at ((Ext.refl _).trans f6) (by simp)
  have e6 : Ext w5 w6 := ((Ext.refl w5).alloc _).trans f6
  replace T := T.ext e6
  replace na := na.ext e6
  replace nb := nb.ext e6
  replace nc := nc.ext e6
  replace ir := ir.ext e6
  replace iq := iq.ext e6
  replace Ba := Ba.ext e6
  replace Bb := Bb.ext e6
  replace Bc := Bc.ext e6
  replace Vir := Vir.ext e6
  have E6 : Ext w w6 := E5.trans e6
  clear e6 f6 E5
  obtain ⟨Viq_0, Viq_1, Viq_2, Viq_3, Viq_4, Viq_5⟩ := id Viq
  have Viq_l := World.block_lt_of_cell? _ _ Viq_0
  go_wp2_with fail
  refine (riright_lit _ _ _ _ 260 1046 true (HQ.out.2.2.2.2.2.1) iq b3 b8 (by omega)).mono ?_
  rintro _ w7 ⟨rfl, f7⟩
  clear Viq_0 Viq_1 Viq_2 Viq_3 Viq_4 Viq_5 Viq_l
  have e7 : Ext w6 w7 := (Ext.refl w6).trans f7
  replace T := T.ext e7
  replace na := na.ext e7
  replace nb := nb.ext e7
  replace nc := nc.ext e7
  replace ir := ir.ext e7
  replace iq := iq.ext e7
  replace Ba := Ba.ext e7
  replace Bb := Bb.ext e7
  replace Bc := Bc.ext e7
  replace Vir := Vir.ext e7
  replace Viq := Viq.ext e7
  have E7 : Ext w w7 := E6.trans e7
  clear e7 f7 E6
  go_wp2
  try simp only [List.append_eq, List.cons_append, List.nil_append]
  obtain ⟨Ba_0, Ba_1, Ba_2, Ba_3, Ba_4, Ba_5⟩ := id Ba
  have Ba_l := World.block_lt_of_cell? _ _ Ba_0
  obtain ⟨Bb_0, Bb_1, Bb_2, Bb_3, Bb_4, Bb_5⟩ := id Bb
  have Bb_l := World.block_lt_of_cell? _ _ Bb_0
  obtain ⟨Bc_0, Bc_1, Bc_2, Bc_3, Bc_4, Bc_5⟩ := id Bc
  have Bc_l := World.block_lt_of_cell? _ _ Bc_0
  obtain ⟨Vir_0, Vir_1, Vir_2, Vir_3, Vir_4, Vir_5⟩ := id Vir
  have Vir_l := World.block_lt_of_cell? _ _ Vir_0
  obtain ⟨Viq_0, Viq_1, Viq_2, Viq_3, Viq_4, Viq_5⟩ := id Viq
  have Viq_l := World.block_lt_of_cell? _ _ Viq_0
  refine wp_region_held_drew (S := (fun w' => (w'.cell? ⟨w.heap.size, 0, none⟩ = some (.bool nba) ∧ w'.cell? ⟨w.heap.size, 1, none⟩ = some (Ma) ∧ w'.cell? ⟨w.heap.size, 2, none⟩ = some (.int .i64 ia) ∧ w'.cell? ⟨w.heap.size, 3, none⟩ = some (.bool nba') ∧ w'.cell? ⟨w.heap.size, 4, none⟩ = some (Ma') ∧ w'.cell? ⟨w.heap.size, 5, none⟩ = some (.int .i64 ia')) ∧ (w'.cell? ⟨w.heap.size + 1, 0, none⟩ = some (.bool nbb) ∧ w'.cell? ⟨w.heap.size + 1, 1, none⟩ = some (Mb) ∧ w'.cell? ⟨w.heap.size + 1, 2, none⟩ = some (.int .i64 ib) ∧ w'.cell? ⟨w.heap.size + 1, 3, none⟩ = some (.bool nbb') ∧ w'.cell? ⟨w.heap.size + 1, 4, none⟩ = some (Mb') ∧ w'.cell? ⟨w.heap.size + 1, 5, none⟩ = some (.int .i64 ib')) ∧ (w'.cell? ⟨w.heap.size + 1 + 1, 0, none⟩ = some (.bool nbc) ∧ w'.cell? ⟨w.heap.size + 1 + 1, 1, none⟩ = some (Mc) ∧ w'.cell? ⟨w.heap.size + 1 + 1, 2, none⟩ = some (.int .i64 ic) ∧ w'.cell? ⟨w.heap.size + 1 + 1, 3, none⟩ = some (.bool nbc') ∧ w'.cell? ⟨w.heap.size + 1 + 1, 4, none⟩ = some (Mc') ∧ w'.cell? ⟨w.heap.size + 1 + 1, 5, none⟩ = some (.int .i64 ic')) ∧ (w'.cell? ⟨w4.heap.size, 0, none⟩ = some (.bool bir) ∧ w'.cell? ⟨w4.heap.size, 1, none⟩ = some (.slice Air lir cir) ∧ w'.cell? ⟨w4.heap.size, 2, none⟩ = some (.int .i64 jir) ∧ w'.cell? ⟨w4.heap.size, 3, none⟩ = some (.bool bir') ∧ w'.cell? ⟨w4.heap.size, 4, none⟩ = some (.slice Air' lir' cir') ∧ w'.cell? ⟨w4.heap.size, 5, none⟩ = some (.int .i64 jir')) ∧ (w'.cell? ⟨w5.heap.size, 0, none⟩ = some (.bool biq) ∧ w'.cell? ⟨w5.heap.size, 1, none⟩ = some (.slice Aiq liq ciq) ∧ w'.cell? ⟨w5.heap.size, 2, none⟩ = some (.int .i64 jiq) ∧ w'.cell? ⟨w5.heap.size, 3, none⟩ = some (.bool biq') ∧ w'.cell? ⟨w5.heap.size, 4, none⟩ = some (.slice Aiq' liq' ciq') ∧ w'.cell? ⟨w5.heap.size, 5, none⟩ = some (.int .i64 jiq')))) (by as_aux_lemma => kernel_rfl) ⟨bx6 (Ba.ext (Ext.refl w7).drew), bx6 (Bb.ext (Ext.refl w7).drew), bx6 (Bc.ext (Ext.refl w7).drew), bx6 (Vir.ext (Ext.refl w7).drew), bx6 (Viq.ext (Ext.refl w7).drew)⟩ (fun hHeld => ?_)
  refine wpAnyH_take (i := 0) (v := ?_) rfl (by as_aux_lemma => kernel_rfl) (by as_aux_lemma => kernel_rfl) (by as_aux_lemma => kernel_rfl) (fun _ _ _ h => h) (Or.inl ⟨by rfl, ?_⟩) (by assumption) ?_
  rotate_left
  · (intro w hSw; (try dsimp only at hSw); go_simp); (try with_reducible rfl)
  simp only [List.getElem_toArray, List.getElem_cons_zero, Act.put, List.setIfInBounds_toArray, List.set_cons_zero, List.set_cons_succ]
  refine wpAnyH_take (i := 1) (v := ?_) rfl (by as_aux_lemma => kernel_rfl) (by as_aux_lemma => kernel_rfl) (by as_aux_lemma => kernel_rfl) (fun _ _ _ h => h) (Or.inl ⟨by rfl, ?_⟩) (by assumption) ?_
  rotate_left
  · (intro w hSw; (try dsimp only at hSw); go_simp); (try with_reducible rfl)
  simp only [List.getElem_toArray, List.getElem_cons_zero, List.getElem_cons_succ, Act.put, List.setIfInBounds_toArray, List.set_cons_zero, List.set_cons_succ]
  refine wpAnyH_take (i := 2) (v := ?_) rfl (by as_aux_lemma => kernel_rfl) (by as_aux_lemma => kernel_rfl) (by as_aux_lemma => kernel_rfl) (fun _ _ _ h => h) (Or.inl ⟨by rfl, ?_⟩) (by assumption) ?_
  rotate_left
  · (intro w hSw; (try dsimp only at hSw); go_simp); (try with_reducible rfl)
  simp only [List.getElem_toArray, List.getElem_cons_zero, List.getElem_cons_succ, Act.put, List.setIfInBounds_toArray, List.set_cons_zero, List.set_cons_succ]
  refine wpAnyH_take (i := 3) (v := ?_) rfl (by as_aux_lemma => kernel_rfl) (by as_aux_lemma => kernel_rfl) (by as_aux_lemma => kernel_rfl) (fun _ _ _ h => h) (Or.inl ⟨by rfl, ?_⟩) (by assumption) ?_
  rotate_left
  · (intro w hSw; (try dsimp only at hSw); go_simp); (try with_reducible rfl)
  simp only [List.getElem_toArray, List.getElem_cons_zero, List.getElem_cons_succ, Act.put, List.setIfInBounds_toArray, List.set_cons_zero, List.set_cons_succ]
  refine wpAnyH_take (i := 5) (v := ?_) rfl (by as_aux_lemma => kernel_rfl) (by as_aux_lemma => kernel_rfl) (by as_aux_lemma => kernel_rfl) (fun _ _ _ h => h) (Or.inl ⟨by rfl, ?_⟩) (by assumption) ?_
  rotate_left
  · (intro w hSw; (try dsimp only at hSw); go_simp); (try with_reducible rfl)
  simp only [List.getElem_toArray, List.getElem_cons_zero, List.getElem_cons_succ, Act.put, List.setIfInBounds_toArray, List.set_cons_zero, List.set_cons_succ]
  refine wpAnyH_take (i := 6) (v := ?_) rfl (by as_aux_lemma => kernel_rfl) (by as_aux_lemma => kernel_rfl) (by as_aux_lemma => kernel_rfl) (fun _ _ _ h => h) (Or.inl ⟨by rfl, ?_⟩) (by assumption) ?_
  rotate_left
  · (intro w hSw; (try dsimp only at hSw); go_simp); (try with_reducible rfl)
  simp only [List.getElem_toArray, List.getElem_cons_zero, List.getElem_cons_succ, Act.put, List.setIfInBounds_toArray, List.set_cons_zero, List.set_cons_succ]
  refine wpAnyH_ready (rs := [4]) (by as_aux_lemma => kernel_rfl) (by simp) ?_
  refine AllReadyH.cons rfl (fun K hK => ?_) AllReadyH.nil
  go_simp
  refine (iadd_any _ _ _ la ha lc hc 200 392 (na.ext (Ext.refl w7).drew) (nc.ext (Ext.refl w7).drew) rla rha rlc rhc (by omega) (T.ext (Ext.refl w7).drew)).mono ?_
  rintro _ u1 ⟨vu1, rfl, m1, eu1⟩
  have F1 : Ext w7 u1 := (Ext.refl w7).drew.trans eu1
  refine hK.out _ _ ⟨bx6 (Ba.ext F1), bx6 (Bb.ext F1), bx6 (Bc.ext F1), bx6 (Vir.ext F1), bx6 (Viq.ext F1)⟩ (fun hHeld => ?_)
  clear hK K eu1
  refine wpAnyH_ready (rs := [7]) (by as_aux_lemma => kernel_rfl) (by simp) ?_
  refine AllReadyH.cons rfl (fun K hK => ?_) AllReadyH.nil
  go_simp
  refine (iadd_any _ _ _ lb hb lc hc 200 392 (nb.ext F1) (nc.ext F1) rlb rhb rlc rhc (by omega) (T.ext F1)).mono ?_
  rintro _ u2 ⟨vu2, rfl, m2, eu2⟩
  have F2 : Ext w7 u2 := F1.trans eu2
  replace m1 := m1.ext eu2
  refine hK.out _ _ ⟨bx6 (Ba.ext F2), bx6 (Bb.ext F2), bx6 (Bc.ext F2), bx6 (Vir.ext F2), bx6 (Viq.ext F2)⟩ (fun hHeld => ?_)
  clear hK K eu2 F1
  refine wpAnyH_ready (rs := [8]) (by as_aux_lemma => kernel_rfl) (by simp) ?_
  refine AllReadyH.cons rfl (fun K hK => ?_) AllReadyH.nil
  go_simp
  refine (inside_lit _ _ _ _ _ _ _ 200 393 200 393 true HQ.out.1 m1 m2 rs.1 rs.2.1 rs.2.2.1 rs.2.2.2 (by omega) (by omega)).mono ?_
  rintro _ u3 ⟨rfl, eu3⟩
  have F3 : Ext w7 u3 := F2.trans eu3
  replace m1 := m1.ext eu3
  replace m2 := m2.ext eu3
  refine hK.out _ _ ⟨bx6 (Ba.ext F3), bx6 (Bb.ext F3), bx6 (Bc.ext F3), bx6 (Vir.ext F3), bx6 (Viq.ext F3)⟩ (fun hHeld => ?_)
  clear hK K eu3 F2
  refine wpAnyH_take (i := 9) (v := ?_) rfl (by as_aux_lemma => kernel_rfl) (by as_aux_lemma => kernel_rfl) (by as_aux_lemma => kernel_rfl) (fun _ _ _ h => h) (Or.inl ⟨by rfl, ?_⟩) (by assumption) ?_
  rotate_left
  · (intro w hSw; (try dsimp only at hSw); go_simp); (try with_reducible rfl)
  simp only [List.getElem_toArray, List.getElem_cons_zero, List.getElem_cons_succ, Act.put, List.setIfInBounds_toArray, List.set_cons_zero, List.set_cons_succ]
  refine wpAnyH_take (i := 10) (v := ?_) rfl (by as_aux_lemma => kernel_rfl) (by as_aux_lemma => kernel_rfl) (by as_aux_lemma => kernel_rfl) (fun _ _ _ h => h) (Or.inl ⟨by rfl, ?_⟩) (by assumption) ?_
  rotate_left
  · (intro w hSw; (try dsimp only at hSw); go_simp); (try with_reducible rfl)
  simp only [List.getElem_toArray, List.getElem_cons_zero, List.getElem_cons_succ, Act.put, List.setIfInBounds_toArray, List.set_cons_zero, List.set_cons_succ]
  refine wpAnyH_take (i := 11) (v := ?_) rfl (by as_aux_lemma => kernel_rfl) (by as_aux_lemma => kernel_rfl) (by as_aux_lemma => kernel_rfl) (fun _ _ _ h => h) (Or.inl ⟨by rfl, ?_⟩) (by assumption) ?_
  rotate_left
  · (intro w hSw; (try dsimp only at hSw); go_simp); (try with_reducible rfl)
  simp only [List.getElem_toArray, List.getElem_cons_zero, List.getElem_cons_succ, Act.put, List.setIfInBounds_toArray, List.set_cons_zero, List.set_cons_succ]
  refine wpAnyH_take (i := 12) (v := ?_) rfl (by as_aux_lemma => kernel_rfl) (by as_aux_lemma => kernel_rfl) (by as_aux_lemma => kernel_rfl) (fun _ _ _ h => h) (Or.inl ⟨by rfl, ?_⟩) (by assumption) ?_
  rotate_left
  · (intro w hSw; (try dsimp only at hSw); go_simp); (try with_reducible rfl)
  simp only [List.getElem_toArray, List.getElem_cons_zero, List.getElem_cons_succ, Act.put, List.setIfInBounds_toArray, List.set_cons_zero, List.set_cons_succ]
  refine wpAnyH_take (i := 14) (v := ?_) rfl (by as_aux_lemma => kernel_rfl) (by as_aux_lemma => kernel_rfl) (by as_aux_lemma => kernel_rfl) (fun _ _ _ h => h) (Or.inl ⟨by rfl, ?_⟩) (by assumption) ?_
  rotate_left
  · (intro w hSw; (try dsimp only at hSw); go_simp); (try with_reducible rfl)
  simp only [List.getElem_toArray, List.getElem_cons_zero, List.getElem_cons_succ, Act.put, List.setIfInBounds_toArray, List.set_cons_zero, List.set_cons_succ]
  refine wpAnyH_take (i := 15) (v := ?_) rfl (by as_aux_lemma => kernel_rfl) (by as_aux_lemma => kernel_rfl) (by as_aux_lemma => kernel_rfl) (fun _ _ _ h => h) (Or.inl ⟨by rfl, ?_⟩) (by assumption) ?_
  rotate_left
  · (intro w hSw; (try dsimp only at hSw); go_simp); (try with_reducible rfl)
  simp only [List.getElem_toArray, List.getElem_cons_zero, List.getElem_cons_succ, Act.put, List.setIfInBounds_toArray, List.set_cons_zero, List.set_cons_succ]
  refine wpAnyH_ready (rs := [13]) (by as_aux_lemma => kernel_rfl) (by simp) ?_
  refine AllReadyH.cons rfl (fun K hK => ?_) AllReadyH.nil
  go_simp
  refine (imul_any _ _ _ la ha lc hc 200 392 200 392 (na.ext F3) (nc.ext F3) rla rha rlc rhc (by omega) (T.ext F3)).mono ?_
  rintro _ u4 ⟨vu4, rfl, m4, eu4⟩
  have F4 : Ext w7 u4 := F3.trans eu4
  refine hK.out _ _ ⟨bx6 (Ba.ext F4), bx6 (Bb.ext F4), bx6 (Bc.ext F4), bx6 (Vir.ext F4), bx6 (Viq.ext F4)⟩ (fun hHeld => ?_)
  clear hK K eu4 F3 m1 m2
  refine wpAnyH_ready (rs := [16]) (by as_aux_lemma => kernel_rfl) (by simp) ?_
  refine AllReadyH.cons rfl (fun K hK => ?_) AllReadyH.nil
  go_simp
  refine (imul_any _ _ _ lb hb lc hc 200 392 200 392 (nb.ext F4) (nc.ext F4) rlb rhb rlc rhc (by omega) (T.ext F4)).mono ?_
  rintro _ u5 ⟨vu5, rfl, m5, eu5⟩
  have F5 : Ext w7 u5 := F4.trans eu5
  replace m4 := m4.ext eu5
  refine hK.out _ _ ⟨bx6 (Ba.ext F5), bx6 (Bb.ext F5), bx6 (Bc.ext F5), bx6 (Vir.ext F5), bx6 (Viq.ext F5)⟩ (fun hHeld => ?_)
  clear hK K eu5 F4
  refine wpAnyH_ready (rs := [17]) (by as_aux_lemma => kernel_rfl) (by simp) ?_
  refine AllReadyH.cons rfl (fun K hK => ?_) AllReadyH.nil
  go_simp
  refine (inside_lit _ _ _ _ _ _ _ 400 784 400 784 true HQ.out.2.1 m4 m5 rm.1.1 rm.1.2 rm.2.1 rm.2.2 (by omega) (by omega)).mono ?_
  rintro _ u6 ⟨rfl, eu6⟩
  have F6 : Ext w7 u6 := F5.trans eu6
  replace m4 := m4.ext eu6
  replace m5 := m5.ext eu6
  refine hK.out _ _ ⟨bx6 (Ba.ext F6), bx6 (Bb.ext F6), bx6 (Bc.ext F6), bx6 (Vir.ext F6), bx6 (Viq.ext F6)⟩ (fun hHeld => ?_)
  clear hK K eu6 F5
  refine wpAnyH_take (i := 18) (v := ?_) rfl (by as_aux_lemma => kernel_rfl) (by as_aux_lemma => kernel_rfl) (by as_aux_lemma => kernel_rfl) (fun _ _ _ h => h) (Or.inl ⟨by rfl, ?_⟩) (by assumption) ?_
  rotate_left
  · (intro w hSw; (try dsimp only at hSw); go_simp); (try with_reducible rfl)
  simp only [List.getElem_toArray, List.getElem_cons_zero, List.getElem_cons_succ, Act.put, List.setIfInBounds_toArray, List.set_cons_zero, List.set_cons_succ]
  refine wpAnyH_take (i := 19) (v := ?_) rfl (by as_aux_lemma => kernel_rfl) (by as_aux_lemma => kernel_rfl) (by as_aux_lemma => kernel_rfl) (fun _ _ _ h => h) (Or.inl ⟨by rfl, ?_⟩) (by assumption) ?_
  rotate_left
  · (intro w hSw; (try dsimp only at hSw); go_simp); (try with_reducible rfl)
  simp only [List.getElem_toArray, List.getElem_cons_zero, List.getElem_cons_succ, Act.put, List.setIfInBounds_toArray, List.set_cons_zero, List.set_cons_succ]
  refine wpAnyH_take (i := 20) (v := ?_) rfl (by as_aux_lemma => kernel_rfl) (by as_aux_lemma => kernel_rfl) (by as_aux_lemma => kernel_rfl) (fun _ _ _ h => h) (Or.inl ⟨by rfl, ?_⟩) (by assumption) ?_
  rotate_left
  · (intro w hSw; (try dsimp only at hSw); go_simp); (try with_reducible rfl)
  simp only [List.getElem_toArray, List.getElem_cons_zero, List.getElem_cons_succ, Act.put, List.setIfInBounds_toArray, List.set_cons_zero, List.set_cons_succ]
  refine wpAnyH_take (i := 21) (v := ?_) rfl (by as_aux_lemma => kernel_rfl) (by as_aux_lemma => kernel_rfl) (by as_aux_lemma => kernel_rfl) (fun _ _ _ h => h) (Or.inl ⟨by rfl, ?_⟩) (by assumption) ?_
  rotate_left
  · (intro w hSw; (try dsimp only at hSw); go_simp); (try with_reducible rfl)
  simp only [List.getElem_toArray, List.getElem_cons_zero, List.getElem_cons_succ, Act.put, List.setIfInBounds_toArray, List.set_cons_zero, List.set_cons_succ]
  refine wpAnyH_take (i := 23) (v := ?_) rfl (by as_aux_lemma => kernel_rfl) (by as_aux_lemma => kernel_rfl) (by as_aux_lemma => kernel_rfl) (fun _ _ _ h => h) (Or.inl ⟨by rfl, ?_⟩) (by assumption) ?_
  rotate_left
  · (intro w hSw; (try dsimp only at hSw); go_simp); (try with_reducible rfl)
  simp only [List.getElem_toArray, List.getElem_cons_zero, List.getElem_cons_succ, Act.put, List.setIfInBounds_toArray, List.set_cons_zero, List.set_cons_succ]
  refine wpAnyH_take (i := 24) (v := ?_) rfl (by as_aux_lemma => kernel_rfl) (by as_aux_lemma => kernel_rfl) (by as_aux_lemma => kernel_rfl) (fun _ _ _ h => h) (Or.inl ⟨by rfl, ?_⟩) (by assumption) ?_
  rotate_left
  · (intro w hSw; (try dsimp only at hSw); go_simp); (try with_reducible rfl)
  simp only [List.getElem_toArray, List.getElem_cons_zero, List.getElem_cons_succ, Act.put, List.setIfInBounds_toArray, List.set_cons_zero, List.set_cons_succ]
  refine wpAnyH_ready (rs := [22]) (by as_aux_lemma => kernel_rfl) (by simp) ?_
  refine AllReadyH.cons rfl (fun K hK => ?_) AllReadyH.nil
  go_simp
  refine (icut_any _ _ la ha _ k 200 392 (by first | rfl | omega) (na.ext F6) rla rha (by omega) hk1 (by omega) (T.ext F6)).mono ?_
  rintro _ u7 ⟨vu7, rfl, m7, eu7⟩
  have F7 : Ext w7 u7 := F6.trans eu7
  refine hK.out _ _ ⟨bx6 (Ba.ext F7), bx6 (Bb.ext F7), bx6 (Bc.ext F7), bx6 (Vir.ext F7), bx6 (Viq.ext F7)⟩ (fun hHeld => ?_)
  clear hK K eu7 F6 m4 m5
  refine wpAnyH_ready (rs := [25]) (by as_aux_lemma => kernel_rfl) (by simp) ?_
  refine AllReadyH.cons rfl (fun K hK => ?_) AllReadyH.nil
  go_simp
  refine (icut_any _ _ lb hb _ k 200 392 (by first | rfl | omega) (nb.ext F7) rlb rhb (by omega) hk1 (by omega) (T.ext F7)).mono ?_
  rintro _ u8 ⟨vu8, rfl, m8, eu8⟩
  have F8 : Ext w7 u8 := F7.trans eu8
  replace m7 := m7.ext eu8
  refine hK.out _ _ ⟨bx6 (Ba.ext F8), bx6 (Bb.ext F8), bx6 (Bc.ext F8), bx6 (Vir.ext F8), bx6 (Viq.ext F8)⟩ (fun hHeld => ?_)
  clear hK K eu8 F7
  refine wpAnyH_ready (rs := [26]) (by as_aux_lemma => kernel_rfl) (by simp) ?_
  refine AllReadyH.cons rfl (fun K hK => ?_) AllReadyH.nil
  go_simp
  refine (inside_lit _ _ _ _ _ _ _ 200 393 200 393 true HQ.out.2.2.1 m7 m8 rc.1 rc.2.1 rc.2.2.1 rc.2.2.2 (by omega) (by omega)).mono ?_
  rintro _ u9 ⟨rfl, eu9⟩
  have F9 : Ext w7 u9 := F8.trans eu9
  replace m7 := m7.ext eu9
  replace m8 := m8.ext eu9
  refine hK.out _ _ ⟨bx6 (Ba.ext F9), bx6 (Bb.ext F9), bx6 (Bc.ext F9), bx6 (Vir.ext F9), bx6 (Viq.ext F9)⟩ (fun hHeld => ?_)
  clear hK K eu9 F8
  refine wpAnyH_take (i := 27) (v := ?_) rfl (by as_aux_lemma => kernel_rfl) (by as_aux_lemma => kernel_rfl) (by as_aux_lemma => kernel_rfl) (fun _ _ _ h => h) (Or.inl ⟨by rfl, ?_⟩) (by assumption) ?_
  rotate_left
  · (intro w hSw; (try dsimp only at hSw); go_simp); (try with_reducible rfl)
  simp only [List.getElem_toArray, List.getElem_cons_zero, List.getElem_cons_succ, Act.put, List.setIfInBounds_toArray, List.set_cons_zero, List.set_cons_succ]
  refine wpAnyH_take (i := 28) (v := ?_) rfl (by as_aux_lemma => kernel_rfl) (by as_aux_lemma => kernel_rfl) (by as_aux_lemma => kernel_rfl) (fun _ _ _ h => h) (Or.inl ⟨by rfl, ?_⟩) (by assumption) ?_
  rotate_left
  · (intro w hSw; (try dsimp only at hSw); go_simp); (try with_reducible rfl)
  simp only [List.getElem_toArray, List.getElem_cons_zero, List.getElem_cons_succ, Act.put, List.setIfInBounds_toArray, List.set_cons_zero, List.set_cons_succ]
  refine wpAnyH_take (i := 29) (v := ?_) rfl (by as_aux_lemma => kernel_rfl) (by as_aux_lemma => kernel_rfl) (by as_aux_lemma => kernel_rfl) (fun _ _ _ h => h) (Or.inl ⟨by rfl, ?_⟩) (by assumption) ?_
  rotate_left
  · (intro w hSw; (try dsimp only at hSw); go_simp); (try with_reducible rfl)
  simp only [List.getElem_toArray, List.getElem_cons_zero, List.getElem_cons_succ, Act.put, List.setIfInBounds_toArray, List.set_cons_zero, List.set_cons_succ]
  refine wpAnyH_take (i := 30) (v := ?_) rfl (by as_aux_lemma => kernel_rfl) (by as_aux_lemma => kernel_rfl) (by as_aux_lemma => kernel_rfl) (fun _ _ _ h => h) (Or.inl ⟨by rfl, ?_⟩) (by assumption) ?_
  rotate_left
  · (intro w hSw; (try dsimp only at hSw); go_simp); (try with_reducible rfl)
  simp only [List.getElem_toArray, List.getElem_cons_zero, List.getElem_cons_succ, Act.put, List.setIfInBounds_toArray, List.set_cons_zero, List.set_cons_succ]
  refine wpAnyH_take (i := 31) (v := ?_) rfl (by as_aux_lemma => kernel_rfl) (by as_aux_lemma => kernel_rfl) (by as_aux_lemma => kernel_rfl) (fun _ _ _ h => h) (Or.inl ⟨by rfl, ?_⟩) (by assumption) ?_
  rotate_left
  · (intro w hSw; (try dsimp only at hSw); go_simp); (try with_reducible rfl)
  simp only [List.getElem_toArray, List.getElem_cons_zero, List.getElem_cons_succ, Act.put, List.setIfInBounds_toArray, List.set_cons_zero, List.set_cons_succ]
  refine wpAnyH_ready (rs := [32]) (by as_aux_lemma => kernel_rfl) (by simp) ?_
  refine AllReadyH.cons rfl (fun K hK => ?_) AllReadyH.nil
  go_simp
  refine (icut_any _ _ la ha _ k 200 392 (by first | rfl | omega) (na.ext F9) rla rha (by omega) hk1 (by omega) (T.ext F9)).mono ?_
  rintro _ u10 ⟨vu10, rfl, m10, eu10⟩
  have F10 : Ext w7 u10 := F9.trans eu10
  refine hK.out _ _ ⟨bx6 (Ba.ext F10), bx6 (Bb.ext F10), bx6 (Bc.ext F10), bx6 (Vir.ext F10), bx6 (Viq.ext F10)⟩ (fun hHeld => ?_)
  clear hK K eu10 F9 m7 m8
  refine wpAnyH_ready (rs := [33]) (by as_aux_lemma => kernel_rfl) (by simp) ?_
  refine AllReadyH.cons rfl (fun K hK => ?_) AllReadyH.nil
  go_simp
  refine (inside_lit _ _ _ _ _ _ _ 200 393 200 393 true HQ.out.2.2.2.1 (na.ext F10) m10 pa.1 pa.2 rc.1 rc.2.1 (by omega) (by omega)).mono ?_
  rintro _ u11 ⟨rfl, eu11⟩
  have F11 : Ext w7 u11 := F10.trans eu11
  replace m10 := m10.ext eu11
  refine hK.out _ _ ⟨bx6 (Ba.ext F11), bx6 (Bb.ext F11), bx6 (Bc.ext F11), bx6 (Vir.ext F11), bx6 (Viq.ext F11)⟩ (fun hHeld => ?_)
  clear hK K eu11 F10
  refine wpAnyH_take (i := 34) (v := ?_) rfl (by as_aux_lemma => kernel_rfl) (by as_aux_lemma => kernel_rfl) (by as_aux_lemma => kernel_rfl) (fun _ _ _ h => h) (Or.inl ⟨by rfl, ?_⟩) (by assumption) ?_
  rotate_left
  · (intro w hSw; (try dsimp only at hSw); go_simp); (try with_reducible rfl)
  simp only [List.getElem_toArray, List.getElem_cons_zero, List.getElem_cons_succ, Act.put, List.setIfInBounds_toArray, List.set_cons_zero, List.set_cons_succ]
  refine wpAnyH_take (i := 35) (v := ?_) rfl (by as_aux_lemma => kernel_rfl) (by as_aux_lemma => kernel_rfl) (by as_aux_lemma => kernel_rfl) (fun _ _ _ h => h) (Or.inl ⟨by rfl, ?_⟩) (by assumption) ?_
  rotate_left
  · (intro w hSw; (try dsimp only at hSw); go_simp); (try with_reducible rfl)
  simp only [List.getElem_toArray, List.getElem_cons_zero, List.getElem_cons_succ, Act.put, List.setIfInBounds_toArray, List.set_cons_zero, List.set_cons_succ]
  refine wpAnyH_take (i := 36) (v := ?_) rfl (by as_aux_lemma => kernel_rfl) (by as_aux_lemma => kernel_rfl) (by as_aux_lemma => kernel_rfl) (fun _ _ _ h => h) (Or.inl ⟨by rfl, ?_⟩) (by assumption) ?_
  rotate_left
  · (intro w hSw; (try dsimp only at hSw); go_simp); (try with_reducible rfl)
  simp only [List.getElem_toArray, List.getElem_cons_zero, List.getElem_cons_succ, Act.put, List.setIfInBounds_toArray, List.set_cons_zero, List.set_cons_succ]
  refine wpAnyH_take (i := 37) (v := ?_) rfl (by as_aux_lemma => kernel_rfl) (by as_aux_lemma => kernel_rfl) (by as_aux_lemma => kernel_rfl) (fun _ _ _ h => h) (Or.inl ⟨by rfl, ?_⟩) (by assumption) ?_
  rotate_left
  · (intro w hSw; (try dsimp only at hSw); go_simp); (try with_reducible rfl)
  simp only [List.getElem_toArray, List.getElem_cons_zero, List.getElem_cons_succ, Act.put, List.setIfInBounds_toArray, List.set_cons_zero, List.set_cons_succ]
  refine wpAnyH_take (i := 38) (v := ?_) rfl (by as_aux_lemma => kernel_rfl) (by as_aux_lemma => kernel_rfl) (by as_aux_lemma => kernel_rfl) (fun _ _ _ h => h) (Or.inl ⟨by rfl, ?_⟩) (by assumption) ?_
  rotate_left
  · (intro w hSw; (try dsimp only at hSw); go_simp); (try with_reducible rfl)
  simp only [List.getElem_toArray, List.getElem_cons_zero, List.getElem_cons_succ, Act.put, List.setIfInBounds_toArray, List.set_cons_zero, List.set_cons_succ]
  refine wpAnyH_take (i := 39) (v := ?_) rfl (by as_aux_lemma => kernel_rfl) (by as_aux_lemma => kernel_rfl) (by as_aux_lemma => kernel_rfl) (fun _ _ _ h => h) (Or.inl ⟨by rfl, ?_⟩) (by assumption) ?_
  rotate_left
  · (intro w hSw; (try dsimp only at hSw); go_simp); (try with_reducible rfl)
  simp only [List.getElem_toArray, List.getElem_cons_zero, List.getElem_cons_succ, Act.put, List.setIfInBounds_toArray, List.set_cons_zero, List.set_cons_succ]
  refine wpAnyH_take (i := 40) (v := ?_) rfl (by as_aux_lemma => kernel_rfl) (by as_aux_lemma => kernel_rfl) (by as_aux_lemma => kernel_rfl) (fun _ _ _ h => h) (Or.inl ⟨by rfl, ?_⟩) (by assumption) ?_
  rotate_left
  · (intro w hSw; (try dsimp only at hSw); go_simp); (try with_reducible rfl)
  simp only [List.getElem_toArray, List.getElem_cons_zero, List.getElem_cons_succ, Act.put, List.setIfInBounds_toArray, List.set_cons_zero, List.set_cons_succ]
  refine wpAnyH_ready (rs := [41]) (by as_aux_lemma => kernel_rfl) (by simp) ?_
  refine AllReadyH.cons rfl (fun K hK => ?_) AllReadyH.nil
  go_simp
  refine (inside_lit _ _ _ _ _ _ _ 260 1046 260 1046 true HQ.out.2.2.2.2.2.2 (ir.ext F11) (iq.ext F11) a3 a8 b3 b8 (by omega) (by omega)).mono ?_
  rintro _ u12 ⟨rfl, eu12⟩
  have F12 : Ext w7 u12 := F11.trans eu12
  refine hK.out _ _ ⟨bx6 (Ba.ext F12), bx6 (Bb.ext F12), bx6 (Bc.ext F12), bx6 (Vir.ext F12), bx6 (Viq.ext F12)⟩ (fun hHeld => ?_)
  clear hK K eu12 F11 m10
  refine wpAnyH_take (i := 42) (v := ?_) rfl (by as_aux_lemma => kernel_rfl) (by as_aux_lemma => kernel_rfl) (by as_aux_lemma => kernel_rfl) (fun _ _ _ h => h) (Or.inl ⟨by rfl, ?_⟩) (by assumption) ?_
  rotate_left
  · (intro w hSw; (try dsimp only at hSw); go_simp); (try with_reducible rfl)
  simp only [List.getElem_toArray, List.getElem_cons_zero, List.getElem_cons_succ, Act.put, List.setIfInBounds_toArray, List.set_cons_zero, List.set_cons_succ]
  refine wpAnyH_take (i := 43) (v := ?_) rfl (by as_aux_lemma => kernel_rfl) (by as_aux_lemma => kernel_rfl) (by as_aux_lemma => kernel_rfl) (fun _ _ _ h => h) (Or.inl ⟨by rfl, ?_⟩) (by assumption) ?_
  rotate_left
  · (intro w hSw; (try dsimp only at hSw); go_simp); (try with_reducible rfl)
  simp only [List.getElem_toArray, List.getElem_cons_zero, List.getElem_cons_succ, Act.put, List.setIfInBounds_toArray, List.set_cons_zero, List.set_cons_succ]
  refine wpAnyH_take (i := 44) (v := ?_) rfl (by as_aux_lemma => kernel_rfl) (by as_aux_lemma => kernel_rfl) (by as_aux_lemma => kernel_rfl) (fun _ _ _ h => h) (Or.inl ⟨by rfl, ?_⟩) (by assumption) ?_
  rotate_left
  · (intro w hSw; (try dsimp only at hSw); go_simp); (try with_reducible rfl)
  simp only [List.getElem_toArray, List.getElem_cons_zero, List.getElem_cons_succ, Act.put, List.setIfInBounds_toArray, List.set_cons_zero, List.set_cons_succ]
  refine wpAnyH_done (by as_aux_lemma => kernel_rfl) ?_ _
  go_wp2
  go_ret
  exact ⟨rfl, E7.trans F12⟩
set_option maxRecDepth 100000 in
set_option maxHeartbeats 4000000 in
theorem inside_ny (w : World) (T : Tb w) (nba : Bool) (Ma : Value) (xa : List Int) (ia : Int) (rowa : Row w Ma xa) (bda : -9223372036854775808 ≤ ia ∧ ia ≤ 9223372036854775807) (nba' : Bool) (Ma' : Value) (xa' : List Int) (ia' : Int) (rowa' : Row w Ma' xa') (bda' : -9223372036854775808 ≤ ia' ∧ ia' ≤ 9223372036854775807) (nbb : Bool) (Mb : Value) (xb : List Int) (ib : Int) (rowb : Row w Mb xb) (bdb : -9223372036854775808 ≤ ib ∧ ib ≤ 9223372036854775807) (nbb' : Bool) (Mb' : Value) (xb' : List Int) (ib' : Int) (rowb' : Row w Mb' xb') (bdb' : -9223372036854775808 ≤ ib' ∧ ib' ≤ 9223372036854775807) (nbc : Bool) (Mc : Value) (xc : List Int) (ic : Int) (rowc : Row w Mc xc) (bdc : -9223372036854775808 ≤ ic ∧ ic ≤ 9223372036854775807) (nbc' : Bool) (Mc' : Value) (xc' : List Int) (ic' : Int) (rowc' : Row w Mc' xc') (bdc' : -9223372036854775808 ≤ ic' ∧ ic' ≤ 9223372036854775807) (n : Int) (bn : 0 ≤ n ∧ n ≤ 255) (hg : goodIs 3 (pk nba nbb nbc) (pk xa xb xc) (pk ia ib ic) (pk nba' nbb' nbc') (pk xa' xb' xc') (pk ia' ib' ic') = true) (la ha : Dyadic) (na : In w (.agg #[.bool nba, Ma, .int .i64 ia, .bool nba', Ma', .int .i64 ia']) la ha) (oa : la ≤ ha) (rla : Rg 200 392 la) (rha : Rg 200 392 ha) (lb hb : Dyadic) (nb : In w (.agg #[.bool nbb, Mb, .int .i64 ib, .bool nbb', Mb', .int .i64 ib']) lb hb) (ob : lb ≤ hb) (rlb : Rg 200 392 lb) (rhb : Rg 200 392 hb) (lc hc : Dyadic) (nc : In w (.agg #[.bool nbc, Mc, .int .i64 ic, .bool nbc', Mc', .int .i64 ic']) lc hc) (oc : lc ≤ hc) (rlc : Rg 200 392 lc) (rhc : Rg 200 392 hc) (hi : (hasB lb hb la && hasB lb hb ha) = true) (k : Nat) (hkk : n % 60 + 1 = (k : Int)) (hk1 : 1 ≤ k) (hk2 : k ≤ 60) (za : 0 ≤ la) (zb : lb < 0) :
    Calls Tryd.prog 5 #[.agg #[.bool nba, Ma, .int .i64 ia, .bool nba', Ma', .int .i64 ia'], .agg #[.bool nbb, Mb, .int .i64 ib, .bool nbb', Mb', .int .i64 ib'], .agg #[.bool nbc, Mc, .int .i64 ic, .bool nbc', Mc', .int .i64 ic'], .int .u8 n] w (RetE w (.bool true)) := by
  go_enter Tryd.func5, Tryd.ntmps5
  go_wp2_with fail
  refine (headI_any _ (T.ext ((((Ext.refl w).alloc _).alloc _).alloc _))).mono ?_
  rintro _ w1 ⟨rfl, f1⟩
  have Ba : Bx w1 (w.heap.size) (.bool nba) (Ma) (.int .i64 ia) (.bool nba') (Ma') (.int .i64 ia') := Bx.at ((((Ext.refl _).alloc _).alloc _).trans f1) (by simp)
  have Bb : Bx w1 (w.heap.size + 1) (.bool nbb) (Mb) (.int .i64 ib) (.bool nbb') (Mb') (.int .i64 ib') := Bx.at (((Ext.refl _).alloc _).trans f1) (by simp)
  have Bc : Bx w1 (w.heap.size + 1 + 1) (.bool nbc) (Mc) (.int .i64 ic) (.bool nbc') (Mc') (.int .i64 ic') := Bx.at ((Ext.refl _).trans f1) (by simp)
  have e1 : Ext w w1 := ((((Ext.refl w).alloc _).alloc _).alloc _).trans f1
  replace T := T.ext e1
  replace rowa := rowa.ext e1
  replace rowa' := rowa'.ext e1
  replace rowb := rowb.ext e1
  replace rowb' := rowb'.ext e1
  replace rowc := rowc.ext e1
  replace rowc' := rowc'.ext e1
  replace na := na.ext e1
  replace nb := nb.ext e1
  replace nc := nc.ext e1
  have E1 : Ext w w1 := e1
  clear f1
  obtain ⟨Ba_0, Ba_1, Ba_2, Ba_3, Ba_4, Ba_5⟩ := id Ba
  have Ba_l := World.block_lt_of_cell? _ _ Ba_0
  obtain ⟨Bb_0, Bb_1, Bb_2, Bb_3, Bb_4, Bb_5⟩ := id Bb
  have Bb_l := World.block_lt_of_cell? _ _ Bb_0
  obtain ⟨Bc_0, Bc_1, Bc_2, Bc_3, Bc_4, Bc_5⟩ := id Bc
  have Bc_l := World.block_lt_of_cell? _ _ Bc_0
  have HG := Lib.hid (good5_any _ _ 3 3 _ _ _ _ _ _ _ _ (by omega) (manyI3 w1 26 nba nbb nbc Ma Mb Mc xa xb xc ia ib ic rowa rowb rowc bda bdb bdc nba' nbb' nbc' Ma' Mb' Mc' xa' xb' xc' ia' ib' ic' rowa' rowb' rowc' bda' bdb' bdc'))
  rw [hg] at HG
  clear hg
  go_wp2_with fail
  refine (HG.out).mono ?_
  rintro _ w2 ⟨rfl, f2⟩
  clear Ba_0 Ba_1 Ba_2 Ba_3 Ba_4 Ba_5 Ba_l Bb_0 Bb_1 Bb_2 Bb_3 Bb_4 Bb_5 Bb_l Bc_0 Bc_1 Bc_2 Bc_3 Bc_4 Bc_5 Bc_l
  have e2 : Ext w1 w2 := ((Ext.refl w1).alloc _).trans f2
  replace T := T.ext e2
  replace rowa := rowa.ext e2
  replace rowa' := rowa'.ext e2
  replace rowb := rowb.ext e2
  replace rowb' := rowb'.ext e2
  replace rowc := rowc.ext e2
  replace rowc' := rowc'.ext e2
  replace na := na.ext e2
  replace nb := nb.ext e2
  replace nc := nc.ext e2
  replace Ba := Ba.ext e2
  replace Bb := Bb.ext e2
  replace Bc := Bc.ext e2
  have E2 : Ext w w2 := E1.trans e2
  clear e2 f2 E1
  clear HG
  clear rowa rowa' rowb rowb' rowc rowc'
  clear bda bda' bdb bdb' bdc bdc'
  have HI := Lib.hid hi
  obtain ⟨i1, i2⟩ := inside_f hi
  clear hi
  obtain ⟨Ba_0, Ba_1, Ba_2, Ba_3, Ba_4, Ba_5⟩ := id Ba
  have Ba_l := World.block_lt_of_cell? _ _ Ba_0
  obtain ⟨Bb_0, Bb_1, Bb_2, Bb_3, Bb_4, Bb_5⟩ := id Bb
  have Bb_l := World.block_lt_of_cell? _ _ Bb_0
  go_wp2_with fail
  refine (inside_lit _ _ _ la ha lb hb 200 392 200 392 true HI.out na nb rla rha rlb rhb (by omega) (by omega)).mono ?_
  rintro _ w3 ⟨rfl, f3⟩
  clear Ba_0 Ba_1 Ba_2 Ba_3 Ba_4 Ba_5 Ba_l Bb_0 Bb_1 Bb_2 Bb_3 Bb_4 Bb_5 Bb_l
  have e3 : Ext w2 w3 := (Ext.refl w2).trans f3
  replace T := T.ext e3
  replace na := na.ext e3
  replace nb := nb.ext e3
  replace nc := nc.ext e3
  replace Ba := Ba.ext e3
  replace Bb := Bb.ext e3
  replace Bc := Bc.ext e3
  have E3 : Ext w w3 := E2.trans e3
  clear e3 f3 E2
  clear HI
  have pa : Rg 200 393 la ∧ Rg 200 393 ha := ⟨rla.mono (by omega) (by omega), rha.mono (by omega) (by omega)⟩
  have ya : 0 ≤ ha := by grind
  obtain ⟨a1, a2, a3, a4⟩ := root_rg za rla hk1 hk2
  obtain ⟨a5, a6, a7, a8⟩ := root_rg ya rha hk1 hk2
  have ta := a1.hi a6 oa
  have HQ := Lib.hid (And.intro (inside_t (show lb + lc ≤ la + lc by grind) (show la + lc ≤ ha + hc by grind) (show ha + hc ≤ hb + hc by grind)) (And.intro (inside_t (mul_inside i1 oa i2 oc).1 (mlo_mhi oa oc) (mul_inside i1 oa i2 oc).2) (And.intro (inside_t ((clo_spec lb hk1).mono (clo_spec la hk1) i1) (show clo k la ≤ chi k ha by have := (clo_spec la hk1).le; have := (chi_spec ha hk1).ge; grind) ((chi_spec ha hk1).mono (chi_spec hb hk1) i2)) (And.intro (inside_t (clo_spec la hk1).le oa (chi_spec ha hk1).ge) (And.intro (decide_eq_true ta) (decide_eq_true (Std.le_refl (0 : Dyadic))))))))
  have rs := And.intro (rla.add rlc) (And.intro (rha.add rhc) (And.intro (rlb.add rlc) (rhb.add rhc)))
  have rm := And.intro (rg_mul4 rla rha rlc rhc) (rg_mul4 rlb rhb rlc rhc)
  have rc := And.intro (clo_rg rla hk1) (And.intro (chi_rg rha hk1) (And.intro (clo_rg rlb hk1) (chi_rg rhb hk1)))
  clear a1 a2 a5 a6 a4 a7 ta
  clear i1 i2 oa ob oc
  obtain ⟨Ba_0, Ba_1, Ba_2, Ba_3, Ba_4, Ba_5⟩ := id Ba
  have Ba_l := World.block_lt_of_cell? _ _ Ba_0
  go_wp2_with fail
  refine (iroot_yes _ _ la ha _ k 200 392 (by first | rfl | omega) na za ya rla rha (by omega) hk1 (by omega) T).mono ?_
  rintro _ w4 ⟨v4, rfl, ir, f4⟩
  clear Ba_0 Ba_1 Ba_2 Ba_3 Ba_4 Ba_5 Ba_l
  have e4 : Ext w3 w4 := (Ext.refl w3).trans f4
  replace T := T.ext e4
  replace na := na.ext e4
  replace nb := nb.ext e4
  replace nc := nc.ext e4
  replace Ba := Ba.ext e4
  replace Bb := Bb.ext e4
  replace Bc := Bc.ext e4
  have E4 : Ext w w4 := E3.trans e4
  clear e4 f4 E3
  obtain ⟨bir, Air, lir, cir, jir, bir', Air', lir', cir', jir', rfl, ir_l, ir_h⟩ := ir
  have ir := In.mk ir_l ir_h
  clear ir_l ir_h
  obtain ⟨Bb_0, Bb_1, Bb_2, Bb_3, Bb_4, Bb_5⟩ := id Bb
  have Bb_l := World.block_lt_of_cell? _ _ Bb_0
  go_wp2_with fail
  refine (iroot_no _ _ lb hb _ k (by first | rfl | omega) (nb.ext ((Ext.refl w4).alloc _)) zb).mono ?_
  rintro _ w5 ⟨v5, rfl, iq, f5⟩
  clear Bb_0 Bb_1 Bb_2 Bb_3 Bb_4 Bb_5 Bb_l
  have Vir : Bx w5 (w4.heap.size) (.bool bir) (.slice Air lir cir) (.int .i64 jir) (.bool bir') (.slice Air' lir' cir') (.int .i64 jir') := Bx.at ((Ext.refl _).trans f5) (by simp)
  have e5 : Ext w4 w5 := ((Ext.refl w4).alloc _).trans f5
  replace T := T.ext e5
  replace na := na.ext e5
  replace nb := nb.ext e5
  replace nc := nc.ext e5
  replace ir := ir.ext e5
  replace Ba := Ba.ext e5
  replace Bb := Bb.ext e5
  replace Bc := Bc.ext e5
  have E5 : Ext w w5 := E4.trans e5
  clear e5 f5 E4
  obtain ⟨biq, Aiq, liq, ciq, jiq, biq', Aiq', liq', ciq', jiq', rfl, iq_l, iq_h⟩ := iq
  have iq := In.mk iq_l iq_h
  clear iq_l iq_h
  obtain ⟨Vir_0, Vir_1, Vir_2, Vir_3, Vir_4, Vir_5⟩ := id Vir
  have Vir_l := World.block_lt_of_cell? _ _ Vir_0
  go_wp2_with fail
  refine (riright_lit _ _ _ _ 260 1046 true (HQ.out.2.2.2.2.1) (ir.ext ((Ext.refl w5).alloc _)) a3 a8 (by omega)).mono ?_
  rintro _ w6 ⟨rfl, f6⟩
  clear Vir_0 Vir_1 Vir_2 Vir_3 Vir_4 Vir_5 Vir_l
  have Viq : Bx w6 (w5.heap.size) (.bool biq) (.slice Aiq liq ciq) (.int .i64 jiq) (.bool biq') (.slice Aiq' liq' ciq') (.int .i64 jiq') := Bx.at ((Ext.refl _).trans f6) (by simp)
  have e6 : Ext w5 w6 := ((Ext.refl w5).alloc _).trans f6
  replace T := T.ext e6
  replace na := na.ext e6
  replace nb := nb.ext e6
  replace nc := nc.ext e6
  replace ir := ir.ext e6
  replace iq := iq.ext e6
  replace Ba := Ba.ext e6
  replace Bb := Bb.ext e6
  replace Bc := Bc.ext e6
  replace Vir := Vir.ext e6
  have E6 : Ext w w6 := E5.trans e6
  clear e6 f6 E5
  obtain ⟨Viq_0, Viq_1, Viq_2, Viq_3, Viq_4, Viq_5⟩ := id Viq
  have Viq_l := World.block_lt_of_cell? _ _ Viq_0
  go_wp2_with fail
  refine (riright_lit _ _ _ _ 260 1046 true (HQ.out.2.2.2.2.2) iq (rg_zero _ _) (rg_zero _ _) (by omega)).mono ?_
  rintro _ w7 ⟨rfl, f7⟩
  clear Viq_0 Viq_1 Viq_2 Viq_3 Viq_4 Viq_5 Viq_l
  have e7 : Ext w6 w7 := (Ext.refl w6).trans f7
  replace T := T.ext e7
  replace na := na.ext e7
  replace nb := nb.ext e7
  replace nc := nc.ext e7
  replace ir := ir.ext e7
  replace iq := iq.ext e7
  replace Ba := Ba.ext e7
  replace Bb := Bb.ext e7
  replace Bc := Bc.ext e7
  replace Vir := Vir.ext e7
  replace Viq := Viq.ext e7
  have E7 : Ext w w7 := E6.trans e7
  clear e7 f7 E6
  go_wp2
  try simp only [List.append_eq, List.cons_append, List.nil_append]
  obtain ⟨Ba_0, Ba_1, Ba_2, Ba_3, Ba_4, Ba_5⟩ := id Ba
  have Ba_l := World.block_lt_of_cell? _ _ Ba_0
  obtain ⟨Bb_0, Bb_1, Bb_2, Bb_3, Bb_4, Bb_5⟩ := id Bb
  have Bb_l := World.block_lt_of_cell? _ _ Bb_0
  obtain ⟨Bc_0, Bc_1, Bc_2, Bc_3, Bc_4, Bc_5⟩ := id Bc
  have Bc_l := World.block_lt_of_cell? _ _ Bc_0
  obtain ⟨Vir_0, Vir_1, Vir_2, Vir_3, Vir_4, Vir_5⟩ := id Vir
  have Vir_l := World.block_lt_of_cell? _ _ Vir_0
  obtain ⟨Viq_0, Viq_1, Viq_2, Viq_3, Viq_4, Viq_5⟩ := id Viq
  have Viq_l := World.block_lt_of_cell? _ _ Viq_0
  refine wp_region_held_drew (S := (fun w' => (w'.cell? ⟨w.heap.size, 0, none⟩ = some (.bool nba) ∧ w'.cell? ⟨w.heap.size, 1, none⟩ = some (Ma) ∧ w'.cell? ⟨w.heap.size, 2, none⟩ = some (.int .i64 ia) ∧ w'.cell? ⟨w.heap.size, 3, none⟩ = some (.bool nba') ∧ w'.cell? ⟨w.heap.size, 4, none⟩ = some (Ma') ∧ w'.cell? ⟨w.heap.size, 5, none⟩ = some (.int .i64 ia')) ∧ (w'.cell? ⟨w.heap.size + 1, 0, none⟩ = some (.bool nbb) ∧ w'.cell? ⟨w.heap.size + 1, 1, none⟩ = some (Mb) ∧ w'.cell? ⟨w.heap.size + 1, 2, none⟩ = some (.int .i64 ib) ∧ w'.cell? ⟨w.heap.size + 1, 3, none⟩ = some (.bool nbb') ∧ w'.cell? ⟨w.heap.size + 1, 4, none⟩ = some (Mb') ∧ w'.cell? ⟨w.heap.size + 1, 5, none⟩ = some (.int .i64 ib')) ∧ (w'.cell? ⟨w.heap.size + 1 + 1, 0, none⟩ = some (.bool nbc) ∧ w'.cell? ⟨w.heap.size + 1 + 1, 1, none⟩ = some (Mc) ∧ w'.cell? ⟨w.heap.size + 1 + 1, 2, none⟩ = some (.int .i64 ic) ∧ w'.cell? ⟨w.heap.size + 1 + 1, 3, none⟩ = some (.bool nbc') ∧ w'.cell? ⟨w.heap.size + 1 + 1, 4, none⟩ = some (Mc') ∧ w'.cell? ⟨w.heap.size + 1 + 1, 5, none⟩ = some (.int .i64 ic')) ∧ (w'.cell? ⟨w4.heap.size, 0, none⟩ = some (.bool bir) ∧ w'.cell? ⟨w4.heap.size, 1, none⟩ = some (.slice Air lir cir) ∧ w'.cell? ⟨w4.heap.size, 2, none⟩ = some (.int .i64 jir) ∧ w'.cell? ⟨w4.heap.size, 3, none⟩ = some (.bool bir') ∧ w'.cell? ⟨w4.heap.size, 4, none⟩ = some (.slice Air' lir' cir') ∧ w'.cell? ⟨w4.heap.size, 5, none⟩ = some (.int .i64 jir')) ∧ (w'.cell? ⟨w5.heap.size, 0, none⟩ = some (.bool biq) ∧ w'.cell? ⟨w5.heap.size, 1, none⟩ = some (.slice Aiq liq ciq) ∧ w'.cell? ⟨w5.heap.size, 2, none⟩ = some (.int .i64 jiq) ∧ w'.cell? ⟨w5.heap.size, 3, none⟩ = some (.bool biq') ∧ w'.cell? ⟨w5.heap.size, 4, none⟩ = some (.slice Aiq' liq' ciq') ∧ w'.cell? ⟨w5.heap.size, 5, none⟩ = some (.int .i64 jiq')))) (by as_aux_lemma => kernel_rfl) ⟨bx6 (Ba.ext (Ext.refl w7).drew), bx6 (Bb.ext (Ext.refl w7).drew), bx6 (Bc.ext (Ext.refl w7).drew), bx6 (Vir.ext (Ext.refl w7).drew), bx6 (Viq.ext (Ext.refl w7).drew)⟩ (fun hHeld => ?_)
  refine wpAnyH_take (i := 0) (v := ?_) rfl (by as_aux_lemma => kernel_rfl) (by as_aux_lemma => kernel_rfl) (by as_aux_lemma => kernel_rfl) (fun _ _ _ h => h) (Or.inl ⟨by rfl, ?_⟩) (by assumption) ?_
  rotate_left
  · (intro w hSw; (try dsimp only at hSw); go_simp); (try with_reducible rfl)
  simp only [List.getElem_toArray, List.getElem_cons_zero, Act.put, List.setIfInBounds_toArray, List.set_cons_zero, List.set_cons_succ]
  refine wpAnyH_take (i := 1) (v := ?_) rfl (by as_aux_lemma => kernel_rfl) (by as_aux_lemma => kernel_rfl) (by as_aux_lemma => kernel_rfl) (fun _ _ _ h => h) (Or.inl ⟨by rfl, ?_⟩) (by assumption) ?_
  rotate_left
  · (intro w hSw; (try dsimp only at hSw); go_simp); (try with_reducible rfl)
  simp only [List.getElem_toArray, List.getElem_cons_zero, List.getElem_cons_succ, Act.put, List.setIfInBounds_toArray, List.set_cons_zero, List.set_cons_succ]
  refine wpAnyH_take (i := 2) (v := ?_) rfl (by as_aux_lemma => kernel_rfl) (by as_aux_lemma => kernel_rfl) (by as_aux_lemma => kernel_rfl) (fun _ _ _ h => h) (Or.inl ⟨by rfl, ?_⟩) (by assumption) ?_
  rotate_left
  · (intro w hSw; (try dsimp only at hSw); go_simp); (try with_reducible rfl)
  simp only [List.getElem_toArray, List.getElem_cons_zero, List.getElem_cons_succ, Act.put, List.setIfInBounds_toArray, List.set_cons_zero, List.set_cons_succ]
  refine wpAnyH_take (i := 3) (v := ?_) rfl (by as_aux_lemma => kernel_rfl) (by as_aux_lemma => kernel_rfl) (by as_aux_lemma => kernel_rfl) (fun _ _ _ h => h) (Or.inl ⟨by rfl, ?_⟩) (by assumption) ?_
  rotate_left
  · (intro w hSw; (try dsimp only at hSw); go_simp); (try with_reducible rfl)
  simp only [List.getElem_toArray, List.getElem_cons_zero, List.getElem_cons_succ, Act.put, List.setIfInBounds_toArray, List.set_cons_zero, List.set_cons_succ]
  refine wpAnyH_take (i := 5) (v := ?_) rfl (by as_aux_lemma => kernel_rfl) (by as_aux_lemma => kernel_rfl) (by as_aux_lemma => kernel_rfl) (fun _ _ _ h => h) (Or.inl ⟨by rfl, ?_⟩) (by assumption) ?_
  rotate_left
  · (intro w hSw; (try dsimp only at hSw); go_simp); (try with_reducible rfl)
  simp only [List.getElem_toArray, List.getElem_cons_zero, List.getElem_cons_succ, Act.put, List.setIfInBounds_toArray, List.set_cons_zero, List.set_cons_succ]
  refine wpAnyH_take (i := 6) (v := ?_) rfl (by as_aux_lemma => kernel_rfl) (by as_aux_lemma => kernel_rfl) (by as_aux_lemma => kernel_rfl) (fun _ _ _ h => h) (Or.inl ⟨by rfl, ?_⟩) (by assumption) ?_
  rotate_left
  · (intro w hSw; (try dsimp only at hSw); go_simp); (try with_reducible rfl)
  simp only [List.getElem_toArray, List.getElem_cons_zero, List.getElem_cons_succ, Act.put, List.setIfInBounds_toArray, List.set_cons_zero, List.set_cons_succ]
  refine wpAnyH_ready (rs := [4]) (by as_aux_lemma => kernel_rfl) (by simp) ?_
  refine AllReadyH.cons rfl (fun K hK => ?_) AllReadyH.nil
  go_simp
  refine (iadd_any _ _ _ la ha lc hc 200 392 (na.ext (Ext.refl w7).drew) (nc.ext (Ext.refl w7).drew) rla rha rlc rhc (by omega) (T.ext (Ext.refl w7).drew)).mono ?_
  rintro _ u1 ⟨vu1, rfl, m1, eu1⟩
  have F1 : Ext w7 u1 := (Ext.refl w7).drew.trans eu1
  refine hK.out _ _ ⟨bx6 (Ba.ext F1), bx6 (Bb.ext F1), bx6 (Bc.ext F1), bx6 (Vir.ext F1), bx6 (Viq.ext F1)⟩ (fun hHeld => ?_)
  clear hK K eu1
  refine wpAnyH_ready (rs := [7]) (by as_aux_lemma => kernel_rfl) (by simp) ?_
  refine AllReadyH.cons rfl (fun K hK => ?_) AllReadyH.nil
  go_simp
  refine (iadd_any _ _ _ lb hb lc hc 200 392 (nb.ext F1) (nc.ext F1) rlb rhb rlc rhc (by omega) (T.ext F1)).mono ?_
  rintro _ u2 ⟨vu2, rfl, m2, eu2⟩
  have F2 : Ext w7 u2 := F1.trans eu2
  replace m1 := m1.ext eu2
  refine hK.out _ _ ⟨bx6 (Ba.ext F2), bx6 (Bb.ext F2), bx6 (Bc.ext F2), bx6 (Vir.ext F2), bx6 (Viq.ext F2)⟩ (fun hHeld => ?_)
  clear hK K eu2 F1
  refine wpAnyH_ready (rs := [8]) (by as_aux_lemma => kernel_rfl) (by simp) ?_
  refine AllReadyH.cons rfl (fun K hK => ?_) AllReadyH.nil
  go_simp
  refine (inside_lit _ _ _ _ _ _ _ 200 393 200 393 true HQ.out.1 m1 m2 rs.1 rs.2.1 rs.2.2.1 rs.2.2.2 (by omega) (by omega)).mono ?_
  rintro _ u3 ⟨rfl, eu3⟩
  have F3 : Ext w7 u3 := F2.trans eu3
  replace m1 := m1.ext eu3
  replace m2 := m2.ext eu3
  refine hK.out _ _ ⟨bx6 (Ba.ext F3), bx6 (Bb.ext F3), bx6 (Bc.ext F3), bx6 (Vir.ext F3), bx6 (Viq.ext F3)⟩ (fun hHeld => ?_)
  clear hK K eu3 F2
  refine wpAnyH_take (i := 9) (v := ?_) rfl (by as_aux_lemma => kernel_rfl) (by as_aux_lemma => kernel_rfl) (by as_aux_lemma => kernel_rfl) (fun _ _ _ h => h) (Or.inl ⟨by rfl, ?_⟩) (by assumption) ?_
  rotate_left
  · (intro w hSw; (try dsimp only at hSw); go_simp); (try with_reducible rfl)
  simp only [List.getElem_toArray, List.getElem_cons_zero, List.getElem_cons_succ, Act.put, List.setIfInBounds_toArray, List.set_cons_zero, List.set_cons_succ]
  refine wpAnyH_take (i := 10) (v := ?_) rfl (by as_aux_lemma => kernel_rfl) (by as_aux_lemma => kernel_rfl) (by as_aux_lemma => kernel_rfl) (fun _ _ _ h => h) (Or.inl ⟨by rfl, ?_⟩) (by assumption) ?_
  rotate_left
  · (intro w hSw; (try dsimp only at hSw); go_simp); (try with_reducible rfl)
  simp only [List.getElem_toArray, List.getElem_cons_zero, List.getElem_cons_succ, Act.put, List.setIfInBounds_toArray, List.set_cons_zero, List.set_cons_succ]
  refine wpAnyH_take (i := 11) (v := ?_) rfl (by as_aux_lemma => kernel_rfl) (by as_aux_lemma => kernel_rfl) (by as_aux_lemma => kernel_rfl) (fun _ _ _ h => h) (Or.inl ⟨by rfl, ?_⟩) (by assumption) ?_
  rotate_left
  · (intro w hSw; (try dsimp only at hSw); go_simp); (try with_reducible rfl)
  simp only [List.getElem_toArray, List.getElem_cons_zero, List.getElem_cons_succ, Act.put, List.setIfInBounds_toArray, List.set_cons_zero, List.set_cons_succ]
  refine wpAnyH_take (i := 12) (v := ?_) rfl (by as_aux_lemma => kernel_rfl) (by as_aux_lemma => kernel_rfl) (by as_aux_lemma => kernel_rfl) (fun _ _ _ h => h) (Or.inl ⟨by rfl, ?_⟩) (by assumption) ?_
  rotate_left
  · (intro w hSw; (try dsimp only at hSw); go_simp); (try with_reducible rfl)
  simp only [List.getElem_toArray, List.getElem_cons_zero, List.getElem_cons_succ, Act.put, List.setIfInBounds_toArray, List.set_cons_zero, List.set_cons_succ]
  refine wpAnyH_take (i := 14) (v := ?_) rfl (by as_aux_lemma => kernel_rfl) (by as_aux_lemma => kernel_rfl) (by as_aux_lemma => kernel_rfl) (fun _ _ _ h => h) (Or.inl ⟨by rfl, ?_⟩) (by assumption) ?_
  rotate_left
  · (intro w hSw; (try dsimp only at hSw); go_simp); (try with_reducible rfl)
  simp only [List.getElem_toArray, List.getElem_cons_zero, List.getElem_cons_succ, Act.put, List.setIfInBounds_toArray, List.set_cons_zero, List.set_cons_succ]
  refine wpAnyH_take (i := 15) (v := ?_) rfl (by as_aux_lemma => kernel_rfl) (by as_aux_lemma => kernel_rfl) (by as_aux_lemma => kernel_rfl) (fun _ _ _ h => h) (Or.inl ⟨by rfl, ?_⟩) (by assumption) ?_
  rotate_left
  · (intro w hSw; (try dsimp only at hSw); go_simp); (try with_reducible rfl)
  simp only [List.getElem_toArray, List.getElem_cons_zero, List.getElem_cons_succ, Act.put, List.setIfInBounds_toArray, List.set_cons_zero, List.set_cons_succ]
  refine wpAnyH_ready (rs := [13]) (by as_aux_lemma => kernel_rfl) (by simp) ?_
  refine AllReadyH.cons rfl (fun K hK => ?_) AllReadyH.nil
  go_simp
  refine (imul_any _ _ _ la ha lc hc 200 392 200 392 (na.ext F3) (nc.ext F3) rla rha rlc rhc (by omega) (T.ext F3)).mono ?_
  rintro _ u4 ⟨vu4, rfl, m4, eu4⟩
  have F4 : Ext w7 u4 := F3.trans eu4
  refine hK.out _ _ ⟨bx6 (Ba.ext F4), bx6 (Bb.ext F4), bx6 (Bc.ext F4), bx6 (Vir.ext F4), bx6 (Viq.ext F4)⟩ (fun hHeld => ?_)
  clear hK K eu4 F3 m1 m2
  refine wpAnyH_ready (rs := [16]) (by as_aux_lemma => kernel_rfl) (by simp) ?_
  refine AllReadyH.cons rfl (fun K hK => ?_) AllReadyH.nil
  go_simp
  refine (imul_any _ _ _ lb hb lc hc 200 392 200 392 (nb.ext F4) (nc.ext F4) rlb rhb rlc rhc (by omega) (T.ext F4)).mono ?_
  rintro _ u5 ⟨vu5, rfl, m5, eu5⟩
  have F5 : Ext w7 u5 := F4.trans eu5
  replace m4 := m4.ext eu5
  refine hK.out _ _ ⟨bx6 (Ba.ext F5), bx6 (Bb.ext F5), bx6 (Bc.ext F5), bx6 (Vir.ext F5), bx6 (Viq.ext F5)⟩ (fun hHeld => ?_)
  clear hK K eu5 F4
  refine wpAnyH_ready (rs := [17]) (by as_aux_lemma => kernel_rfl) (by simp) ?_
  refine AllReadyH.cons rfl (fun K hK => ?_) AllReadyH.nil
  go_simp
  refine (inside_lit _ _ _ _ _ _ _ 400 784 400 784 true HQ.out.2.1 m4 m5 rm.1.1 rm.1.2 rm.2.1 rm.2.2 (by omega) (by omega)).mono ?_
  rintro _ u6 ⟨rfl, eu6⟩
  have F6 : Ext w7 u6 := F5.trans eu6
  replace m4 := m4.ext eu6
  replace m5 := m5.ext eu6
  refine hK.out _ _ ⟨bx6 (Ba.ext F6), bx6 (Bb.ext F6), bx6 (Bc.ext F6), bx6 (Vir.ext F6), bx6 (Viq.ext F6)⟩ (fun hHeld => ?_)
  clear hK K eu6 F5
  refine wpAnyH_take (i := 18) (v := ?_) rfl (by as_aux_lemma => kernel_rfl) (by as_aux_lemma => kernel_rfl) (by as_aux_lemma => kernel_rfl) (fun _ _ _ h => h) (Or.inl ⟨by rfl, ?_⟩) (by assumption) ?_
  rotate_left
  · (intro w hSw; (try dsimp only at hSw); go_simp); (try with_reducible rfl)
  simp only [List.getElem_toArray, List.getElem_cons_zero, List.getElem_cons_succ, Act.put, List.setIfInBounds_toArray, List.set_cons_zero, List.set_cons_succ]
  refine wpAnyH_take (i := 19) (v := ?_) rfl (by as_aux_lemma => kernel_rfl) (by as_aux_lemma => kernel_rfl) (by as_aux_lemma => kernel_rfl) (fun _ _ _ h => h) (Or.inl ⟨by rfl, ?_⟩) (by assumption) ?_
  rotate_left
  · (intro w hSw; (try dsimp only at hSw); go_simp); (try with_reducible rfl)
  simp only [List.getElem_toArray, List.getElem_cons_zero, List.getElem_cons_succ, Act.put, List.setIfInBounds_toArray, List.set_cons_zero, List.set_cons_succ]
  refine wpAnyH_take (i := 20) (v := ?_) rfl (by as_aux_lemma => kernel_rfl) (by as_aux_lemma => kernel_rfl) (by as_aux_lemma => kernel_rfl) (fun _ _ _ h => h) (Or.inl ⟨by rfl, ?_⟩) (by assumption) ?_
  rotate_left
  · (intro w hSw; (try dsimp only at hSw); go_simp); (try with_reducible rfl)
  simp only [List.getElem_toArray, List.getElem_cons_zero, List.getElem_cons_succ, Act.put, List.setIfInBounds_toArray, List.set_cons_zero, List.set_cons_succ]
  refine wpAnyH_take (i := 21) (v := ?_) rfl (by as_aux_lemma => kernel_rfl) (by as_aux_lemma => kernel_rfl) (by as_aux_lemma => kernel_rfl) (fun _ _ _ h => h) (Or.inl ⟨by rfl, ?_⟩) (by assumption) ?_
  rotate_left
  · (intro w hSw; (try dsimp only at hSw); go_simp); (try with_reducible rfl)
  simp only [List.getElem_toArray, List.getElem_cons_zero, List.getElem_cons_succ, Act.put, List.setIfInBounds_toArray, List.set_cons_zero, List.set_cons_succ]
  refine wpAnyH_take (i := 23) (v := ?_) rfl (by as_aux_lemma => kernel_rfl) (by as_aux_lemma => kernel_rfl) (by as_aux_lemma => kernel_rfl) (fun _ _ _ h => h) (Or.inl ⟨by rfl, ?_⟩) (by assumption) ?_
  rotate_left
  · (intro w hSw; (try dsimp only at hSw); go_simp); (try with_reducible rfl)
  simp only [List.getElem_toArray, List.getElem_cons_zero, List.getElem_cons_succ, Act.put, List.setIfInBounds_toArray, List.set_cons_zero, List.set_cons_succ]
  refine wpAnyH_take (i := 24) (v := ?_) rfl (by as_aux_lemma => kernel_rfl) (by as_aux_lemma => kernel_rfl) (by as_aux_lemma => kernel_rfl) (fun _ _ _ h => h) (Or.inl ⟨by rfl, ?_⟩) (by assumption) ?_
  rotate_left
  · (intro w hSw; (try dsimp only at hSw); go_simp); (try with_reducible rfl)
  simp only [List.getElem_toArray, List.getElem_cons_zero, List.getElem_cons_succ, Act.put, List.setIfInBounds_toArray, List.set_cons_zero, List.set_cons_succ]
  refine wpAnyH_ready (rs := [22]) (by as_aux_lemma => kernel_rfl) (by simp) ?_
  refine AllReadyH.cons rfl (fun K hK => ?_) AllReadyH.nil
  go_simp
  refine (icut_any _ _ la ha _ k 200 392 (by first | rfl | omega) (na.ext F6) rla rha (by omega) hk1 (by omega) (T.ext F6)).mono ?_
  rintro _ u7 ⟨vu7, rfl, m7, eu7⟩
  have F7 : Ext w7 u7 := F6.trans eu7
  refine hK.out _ _ ⟨bx6 (Ba.ext F7), bx6 (Bb.ext F7), bx6 (Bc.ext F7), bx6 (Vir.ext F7), bx6 (Viq.ext F7)⟩ (fun hHeld => ?_)
  clear hK K eu7 F6 m4 m5
  refine wpAnyH_ready (rs := [25]) (by as_aux_lemma => kernel_rfl) (by simp) ?_
  refine AllReadyH.cons rfl (fun K hK => ?_) AllReadyH.nil
  go_simp
  refine (icut_any _ _ lb hb _ k 200 392 (by first | rfl | omega) (nb.ext F7) rlb rhb (by omega) hk1 (by omega) (T.ext F7)).mono ?_
  rintro _ u8 ⟨vu8, rfl, m8, eu8⟩
  have F8 : Ext w7 u8 := F7.trans eu8
  replace m7 := m7.ext eu8
  refine hK.out _ _ ⟨bx6 (Ba.ext F8), bx6 (Bb.ext F8), bx6 (Bc.ext F8), bx6 (Vir.ext F8), bx6 (Viq.ext F8)⟩ (fun hHeld => ?_)
  clear hK K eu8 F7
  refine wpAnyH_ready (rs := [26]) (by as_aux_lemma => kernel_rfl) (by simp) ?_
  refine AllReadyH.cons rfl (fun K hK => ?_) AllReadyH.nil
  go_simp
  refine (inside_lit _ _ _ _ _ _ _ 200 393 200 393 true HQ.out.2.2.1 m7 m8 rc.1 rc.2.1 rc.2.2.1 rc.2.2.2 (by omega) (by omega)).mono ?_
  rintro _ u9 ⟨rfl, eu9⟩
  have F9 : Ext w7 u9 := F8.trans eu9
  replace m7 := m7.ext eu9
  replace m8 := m8.ext eu9
  refine hK.out _ _ ⟨bx6 (Ba.ext F9), bx6 (Bb.ext F9), bx6 (Bc.ext F9), bx6 (Vir.ext F9), bx6 (Viq.ext F9)⟩ (fun hHeld => ?_)
  clear hK K eu9 F8
  refine wpAnyH_take (i := 27) (v := ?_) rfl (by as_aux_lemma => kernel_rfl) (by as_aux_lemma => kernel_rfl) (by as_aux_lemma => kernel_rfl) (fun _ _ _ h => h) (Or.inl ⟨by rfl, ?_⟩) (by assumption) ?_
  rotate_left
  · (intro w hSw; (try dsimp only at hSw); go_simp); (try with_reducible rfl)
  simp only [List.getElem_toArray, List.getElem_cons_zero, List.getElem_cons_succ, Act.put, List.setIfInBounds_toArray, List.set_cons_zero, List.set_cons_succ]
  refine wpAnyH_take (i := 28) (v := ?_) rfl (by as_aux_lemma => kernel_rfl) (by as_aux_lemma => kernel_rfl) (by as_aux_lemma => kernel_rfl) (fun _ _ _ h => h) (Or.inl ⟨by rfl, ?_⟩) (by assumption) ?_
  rotate_left
  · (intro w hSw; (try dsimp only at hSw); go_simp); (try with_reducible rfl)
  simp only [List.getElem_toArray, List.getElem_cons_zero, List.getElem_cons_succ, Act.put, List.setIfInBounds_toArray, List.set_cons_zero, List.set_cons_succ]
  refine wpAnyH_take (i := 29) (v := ?_) rfl (by as_aux_lemma => kernel_rfl) (by as_aux_lemma => kernel_rfl) (by as_aux_lemma => kernel_rfl) (fun _ _ _ h => h) (Or.inl ⟨by rfl, ?_⟩) (by assumption) ?_
  rotate_left
  · (intro w hSw; (try dsimp only at hSw); go_simp); (try with_reducible rfl)
  simp only [List.getElem_toArray, List.getElem_cons_zero, List.getElem_cons_succ, Act.put, List.setIfInBounds_toArray, List.set_cons_zero, List.set_cons_succ]
  refine wpAnyH_take (i := 30) (v := ?_) rfl (by as_aux_lemma => kernel_rfl) (by as_aux_lemma => kernel_rfl) (by as_aux_lemma => kernel_rfl) (fun _ _ _ h => h) (Or.inl ⟨by rfl, ?_⟩) (by assumption) ?_
  rotate_left
  · (intro w hSw; (try dsimp only at hSw); go_simp); (try with_reducible rfl)
  simp only [List.getElem_toArray, List.getElem_cons_zero, List.getElem_cons_succ, Act.put, List.setIfInBounds_toArray, List.set_cons_zero, List.set_cons_succ]
  refine wpAnyH_take (i := 31) (v := ?_) rfl (by as_aux_lemma => kernel_rfl) (by as_aux_lemma => kernel_rfl) (by as_aux_lemma => kernel_rfl) (fun _ _ _ h => h) (Or.inl ⟨by rfl, ?_⟩) (by assumption) ?_
  rotate_left
  · (intro w hSw; (try dsimp only at hSw); go_simp); (try with_reducible rfl)
  simp only [List.getElem_toArray, List.getElem_cons_zero, List.getElem_cons_succ, Act.put, List.setIfInBounds_toArray, List.set_cons_zero, List.set_cons_succ]
  refine wpAnyH_ready (rs := [32]) (by as_aux_lemma => kernel_rfl) (by simp) ?_
  refine AllReadyH.cons rfl (fun K hK => ?_) AllReadyH.nil
  go_simp
  refine (icut_any _ _ la ha _ k 200 392 (by first | rfl | omega) (na.ext F9) rla rha (by omega) hk1 (by omega) (T.ext F9)).mono ?_
  rintro _ u10 ⟨vu10, rfl, m10, eu10⟩
  have F10 : Ext w7 u10 := F9.trans eu10
  refine hK.out _ _ ⟨bx6 (Ba.ext F10), bx6 (Bb.ext F10), bx6 (Bc.ext F10), bx6 (Vir.ext F10), bx6 (Viq.ext F10)⟩ (fun hHeld => ?_)
  clear hK K eu10 F9 m7 m8
  refine wpAnyH_ready (rs := [33]) (by as_aux_lemma => kernel_rfl) (by simp) ?_
  refine AllReadyH.cons rfl (fun K hK => ?_) AllReadyH.nil
  go_simp
  refine (inside_lit _ _ _ _ _ _ _ 200 393 200 393 true HQ.out.2.2.2.1 (na.ext F10) m10 pa.1 pa.2 rc.1 rc.2.1 (by omega) (by omega)).mono ?_
  rintro _ u11 ⟨rfl, eu11⟩
  have F11 : Ext w7 u11 := F10.trans eu11
  replace m10 := m10.ext eu11
  refine hK.out _ _ ⟨bx6 (Ba.ext F11), bx6 (Bb.ext F11), bx6 (Bc.ext F11), bx6 (Vir.ext F11), bx6 (Viq.ext F11)⟩ (fun hHeld => ?_)
  clear hK K eu11 F10
  refine wpAnyH_take (i := 34) (v := ?_) rfl (by as_aux_lemma => kernel_rfl) (by as_aux_lemma => kernel_rfl) (by as_aux_lemma => kernel_rfl) (fun _ _ _ h => h) (Or.inl ⟨by rfl, ?_⟩) (by assumption) ?_
  rotate_left
  · (intro w hSw; (try dsimp only at hSw); go_simp); (try with_reducible rfl)
  simp only [List.getElem_toArray, List.getElem_cons_zero, List.getElem_cons_succ, Act.put, List.setIfInBounds_toArray, List.set_cons_zero, List.set_cons_succ]
  refine wpAnyH_take (i := 35) (v := ?_) rfl (by as_aux_lemma => kernel_rfl) (by as_aux_lemma => kernel_rfl) (by as_aux_lemma => kernel_rfl) (fun _ _ _ h => h) (Or.inl ⟨by rfl, ?_⟩) (by assumption) ?_
  rotate_left
  · (intro w hSw; (try dsimp only at hSw); go_simp); (try with_reducible rfl)
  simp only [List.getElem_toArray, List.getElem_cons_zero, List.getElem_cons_succ, Act.put, List.setIfInBounds_toArray, List.set_cons_zero, List.set_cons_succ]
  refine wpAnyH_take (i := 36) (v := ?_) rfl (by as_aux_lemma => kernel_rfl) (by as_aux_lemma => kernel_rfl) (by as_aux_lemma => kernel_rfl) (fun _ _ _ h => h) (Or.inl ⟨by rfl, ?_⟩) (by assumption) ?_
  rotate_left
  · (intro w hSw; (try dsimp only at hSw); go_simp); (try with_reducible rfl)
  simp only [List.getElem_toArray, List.getElem_cons_zero, List.getElem_cons_succ, Act.put, List.setIfInBounds_toArray, List.set_cons_zero, List.set_cons_succ]
  refine wpAnyH_take (i := 37) (v := ?_) rfl (by as_aux_lemma => kernel_rfl) (by as_aux_lemma => kernel_rfl) (by as_aux_lemma => kernel_rfl) (fun _ _ _ h => h) (Or.inl ⟨by rfl, ?_⟩) (by assumption) ?_
  rotate_left
  · (intro w hSw; (try dsimp only at hSw); go_simp); (try with_reducible rfl)
  simp only [List.getElem_toArray, List.getElem_cons_zero, List.getElem_cons_succ, Act.put, List.setIfInBounds_toArray, List.set_cons_zero, List.set_cons_succ]
  refine wpAnyH_take (i := 38) (v := ?_) rfl (by as_aux_lemma => kernel_rfl) (by as_aux_lemma => kernel_rfl) (by as_aux_lemma => kernel_rfl) (fun _ _ _ h => h) (Or.inl ⟨by rfl, ?_⟩) (by assumption) ?_
  rotate_left
  · (intro w hSw; (try dsimp only at hSw); go_simp); (try with_reducible rfl)
  simp only [List.getElem_toArray, List.getElem_cons_zero, List.getElem_cons_succ, Act.put, List.setIfInBounds_toArray, List.set_cons_zero, List.set_cons_succ]
  refine wpAnyH_take (i := 39) (v := undef) rfl (by as_aux_lemma => kernel_rfl) (by as_aux_lemma => kernel_rfl) (by as_aux_lemma => kernel_rfl) (fun _ _ _ h => h) (Or.inr ⟨by rfl, rfl⟩) (by assumption) ?_
  simp only [List.getElem_toArray, List.getElem_cons_zero, List.getElem_cons_succ, Act.put, List.setIfInBounds_toArray, List.set_cons_zero, List.set_cons_succ]
  refine wpAnyH_take (i := 40) (v := undef) rfl (by as_aux_lemma => kernel_rfl) (by as_aux_lemma => kernel_rfl) (by as_aux_lemma => kernel_rfl) (fun _ _ _ h => h) (Or.inr ⟨by rfl, rfl⟩) (by assumption) ?_
  simp only [List.getElem_toArray, List.getElem_cons_zero, List.getElem_cons_succ, Act.put, List.setIfInBounds_toArray, List.set_cons_zero, List.set_cons_succ]
  refine wpAnyH_take (i := 41) (v := undef) rfl (by as_aux_lemma => kernel_rfl) (by as_aux_lemma => kernel_rfl) (by as_aux_lemma => kernel_rfl) (fun _ _ _ h => h) (Or.inr ⟨by rfl, rfl⟩) (by assumption) ?_
  simp only [List.getElem_toArray, List.getElem_cons_zero, List.getElem_cons_succ, Act.put, List.setIfInBounds_toArray, List.set_cons_zero, List.set_cons_succ]
  refine wpAnyH_take (i := 42) (v := ?_) rfl (by as_aux_lemma => kernel_rfl) (by as_aux_lemma => kernel_rfl) (by as_aux_lemma => kernel_rfl) (fun _ _ _ h => h) (Or.inl ⟨by rfl, ?_⟩) (by assumption) ?_
  rotate_left
  · (intro w hSw; (try dsimp only at hSw); go_simp); (try with_reducible rfl)
  simp only [List.getElem_toArray, List.getElem_cons_zero, List.getElem_cons_succ, Act.put, List.setIfInBounds_toArray, List.set_cons_zero, List.set_cons_succ]
  refine wpAnyH_take (i := 43) (v := ?_) rfl (by as_aux_lemma => kernel_rfl) (by as_aux_lemma => kernel_rfl) (by as_aux_lemma => kernel_rfl) (fun _ _ _ h => h) (Or.inl ⟨by rfl, ?_⟩) (by assumption) ?_
  rotate_left
  · (intro w hSw; (try dsimp only at hSw); go_simp); (try with_reducible rfl)
  simp only [List.getElem_toArray, List.getElem_cons_zero, List.getElem_cons_succ, Act.put, List.setIfInBounds_toArray, List.set_cons_zero, List.set_cons_succ]
  refine wpAnyH_take (i := 44) (v := ?_) rfl (by as_aux_lemma => kernel_rfl) (by as_aux_lemma => kernel_rfl) (by as_aux_lemma => kernel_rfl) (fun _ _ _ h => h) (Or.inl ⟨by rfl, ?_⟩) (by assumption) ?_
  rotate_left
  · (intro w hSw; (try dsimp only at hSw); go_simp); (try with_reducible rfl)
  simp only [List.getElem_toArray, List.getElem_cons_zero, List.getElem_cons_succ, Act.put, List.setIfInBounds_toArray, List.set_cons_zero, List.set_cons_succ]
  refine wpAnyH_done (by as_aux_lemma => kernel_rfl) ?_ _
  go_wp2
  go_ret
  exact ⟨rfl, E7.trans F11⟩
set_option maxRecDepth 100000 in
set_option maxHeartbeats 4000000 in
theorem inside_nn (w : World) (T : Tb w) (nba : Bool) (Ma : Value) (xa : List Int) (ia : Int) (rowa : Row w Ma xa) (bda : -9223372036854775808 ≤ ia ∧ ia ≤ 9223372036854775807) (nba' : Bool) (Ma' : Value) (xa' : List Int) (ia' : Int) (rowa' : Row w Ma' xa') (bda' : -9223372036854775808 ≤ ia' ∧ ia' ≤ 9223372036854775807) (nbb : Bool) (Mb : Value) (xb : List Int) (ib : Int) (rowb : Row w Mb xb) (bdb : -9223372036854775808 ≤ ib ∧ ib ≤ 9223372036854775807) (nbb' : Bool) (Mb' : Value) (xb' : List Int) (ib' : Int) (rowb' : Row w Mb' xb') (bdb' : -9223372036854775808 ≤ ib' ∧ ib' ≤ 9223372036854775807) (nbc : Bool) (Mc : Value) (xc : List Int) (ic : Int) (rowc : Row w Mc xc) (bdc : -9223372036854775808 ≤ ic ∧ ic ≤ 9223372036854775807) (nbc' : Bool) (Mc' : Value) (xc' : List Int) (ic' : Int) (rowc' : Row w Mc' xc') (bdc' : -9223372036854775808 ≤ ic' ∧ ic' ≤ 9223372036854775807) (n : Int) (bn : 0 ≤ n ∧ n ≤ 255) (hg : goodIs 3 (pk nba nbb nbc) (pk xa xb xc) (pk ia ib ic) (pk nba' nbb' nbc') (pk xa' xb' xc') (pk ia' ib' ic') = true) (la ha : Dyadic) (na : In w (.agg #[.bool nba, Ma, .int .i64 ia, .bool nba', Ma', .int .i64 ia']) la ha) (oa : la ≤ ha) (rla : Rg 200 392 la) (rha : Rg 200 392 ha) (lb hb : Dyadic) (nb : In w (.agg #[.bool nbb, Mb, .int .i64 ib, .bool nbb', Mb', .int .i64 ib']) lb hb) (ob : lb ≤ hb) (rlb : Rg 200 392 lb) (rhb : Rg 200 392 hb) (lc hc : Dyadic) (nc : In w (.agg #[.bool nbc, Mc, .int .i64 ic, .bool nbc', Mc', .int .i64 ic']) lc hc) (oc : lc ≤ hc) (rlc : Rg 200 392 lc) (rhc : Rg 200 392 hc) (hi : (hasB lb hb la && hasB lb hb ha) = true) (k : Nat) (hkk : n % 60 + 1 = (k : Int)) (hk1 : 1 ≤ k) (hk2 : k ≤ 60) (za : la < 0) (zb : lb < 0) :
    Calls Tryd.prog 5 #[.agg #[.bool nba, Ma, .int .i64 ia, .bool nba', Ma', .int .i64 ia'], .agg #[.bool nbb, Mb, .int .i64 ib, .bool nbb', Mb', .int .i64 ib'], .agg #[.bool nbc, Mc, .int .i64 ic, .bool nbc', Mc', .int .i64 ic'], .int .u8 n] w (RetE w (.bool true)) := by
  go_enter Tryd.func5, Tryd.ntmps5
  go_wp2_with fail
  refine (headI_any _ (T.ext ((((Ext.refl w).alloc _).alloc _).alloc _))).mono ?_
  rintro _ w1 ⟨rfl, f1⟩
  have Ba : Bx w1 (w.heap.size) (.bool nba) (Ma) (.int .i64 ia) (.bool nba') (Ma') (.int .i64 ia') := Bx.at ((((Ext.refl _).alloc _).alloc _).trans f1) (by simp)
  have Bb : Bx w1 (w.heap.size + 1) (.bool nbb) (Mb) (.int .i64 ib) (.bool nbb') (Mb') (.int .i64 ib') := Bx.at (((Ext.refl _).alloc _).trans f1) (by simp)
  have Bc : Bx w1 (w.heap.size + 1 + 1) (.bool nbc) (Mc) (.int .i64 ic) (.bool nbc') (Mc') (.int .i64 ic') := Bx.at ((Ext.refl _).trans f1) (by simp)
  have e1 : Ext w w1 := ((((Ext.refl w).alloc _).alloc _).alloc _).trans f1
  replace T := T.ext e1
  replace rowa := rowa.ext e1
  replace rowa' := rowa'.ext e1
  replace rowb := rowb.ext e1
  replace rowb' := rowb'.ext e1
  replace rowc := rowc.ext e1
  replace rowc' := rowc'.ext e1
  replace na := na.ext e1
  replace nb := nb.ext e1
  replace nc := nc.ext e1
  have E1 : Ext w w1 := e1
  clear f1
  obtain ⟨Ba_0, Ba_1, Ba_2, Ba_3, Ba_4, Ba_5⟩ := id Ba
  have Ba_l := World.block_lt_of_cell? _ _ Ba_0
  obtain ⟨Bb_0, Bb_1, Bb_2, Bb_3, Bb_4, Bb_5⟩ := id Bb
  have Bb_l := World.block_lt_of_cell? _ _ Bb_0
  obtain ⟨Bc_0, Bc_1, Bc_2, Bc_3, Bc_4, Bc_5⟩ := id Bc
  have Bc_l := World.block_lt_of_cell? _ _ Bc_0
  have HG := Lib.hid (good5_any _ _ 3 3 _ _ _ _ _ _ _ _ (by omega) (manyI3 w1 26 nba nbb nbc Ma Mb Mc xa xb xc ia ib ic rowa rowb rowc bda bdb bdc nba' nbb' nbc' Ma' Mb' Mc' xa' xb' xc' ia' ib' ic' rowa' rowb' rowc' bda' bdb' bdc'))
  rw [hg] at HG
  clear hg
  go_wp2_with fail
  refine (HG.out).mono ?_
  rintro _ w2 ⟨rfl, f2⟩
  clear Ba_0 Ba_1 Ba_2 Ba_3 Ba_4 Ba_5 Ba_l Bb_0 Bb_1 Bb_2 Bb_3 Bb_4 Bb_5 Bb_l Bc_0 Bc_1 Bc_2 Bc_3 Bc_4 Bc_5 Bc_l
  have e2 : Ext w1 w2 := ((Ext.refl w1).alloc _).trans f2
  replace T := T.ext e2
  replace rowa := rowa.ext e2
  replace rowa' := rowa'.ext e2
  replace rowb := rowb.ext e2
  replace rowb' := rowb'.ext e2
  replace rowc := rowc.ext e2
  replace rowc' := rowc'.ext e2
  replace na := na.ext e2
  replace nb := nb.ext e2
  replace nc := nc.ext e2
  replace Ba := Ba.ext e2
  replace Bb := Bb.ext e2
  replace Bc := Bc.ext e2
  have E2 : Ext w w2 := E1.trans e2
  clear e2 f2 E1
  clear HG
  clear rowa rowa' rowb rowb' rowc rowc'
  clear bda bda' bdb bdb' bdc bdc'
  have HI := Lib.hid hi
  obtain ⟨i1, i2⟩ := inside_f hi
  clear hi
  obtain ⟨Ba_0, Ba_1, Ba_2, Ba_3, Ba_4, Ba_5⟩ := id Ba
  have Ba_l := World.block_lt_of_cell? _ _ Ba_0
  obtain ⟨Bb_0, Bb_1, Bb_2, Bb_3, Bb_4, Bb_5⟩ := id Bb
  have Bb_l := World.block_lt_of_cell? _ _ Bb_0
  go_wp2_with fail
  refine (inside_lit _ _ _ la ha lb hb 200 392 200 392 true HI.out na nb rla rha rlb rhb (by omega) (by omega)).mono ?_
  rintro _ w3 ⟨rfl, f3⟩
  clear Ba_0 Ba_1 Ba_2 Ba_3 Ba_4 Ba_5 Ba_l Bb_0 Bb_1 Bb_2 Bb_3 Bb_4 Bb_5 Bb_l
  have e3 : Ext w2 w3 := (Ext.refl w2).trans f3
  replace T := T.ext e3
  replace na := na.ext e3
  replace nb := nb.ext e3
  replace nc := nc.ext e3
  replace Ba := Ba.ext e3
  replace Bb := Bb.ext e3
  replace Bc := Bc.ext e3
  have E3 : Ext w w3 := E2.trans e3
  clear e3 f3 E2
  clear HI
  have pa : Rg 200 393 la ∧ Rg 200 393 ha := ⟨rla.mono (by omega) (by omega), rha.mono (by omega) (by omega)⟩
  have HQ := Lib.hid (And.intro (inside_t (show lb + lc ≤ la + lc by grind) (show la + lc ≤ ha + hc by grind) (show ha + hc ≤ hb + hc by grind)) (And.intro (inside_t (mul_inside i1 oa i2 oc).1 (mlo_mhi oa oc) (mul_inside i1 oa i2 oc).2) (And.intro (inside_t ((clo_spec lb hk1).mono (clo_spec la hk1) i1) (show clo k la ≤ chi k ha by have := (clo_spec la hk1).le; have := (chi_spec ha hk1).ge; grind) ((chi_spec ha hk1).mono (chi_spec hb hk1) i2)) (And.intro (inside_t (clo_spec la hk1).le oa (chi_spec ha hk1).ge) (And.intro (decide_eq_true (Std.le_refl (0 : Dyadic))) (decide_eq_true (Std.le_refl (0 : Dyadic))))))))
  have rs := And.intro (rla.add rlc) (And.intro (rha.add rhc) (And.intro (rlb.add rlc) (rhb.add rhc)))
  have rm := And.intro (rg_mul4 rla rha rlc rhc) (rg_mul4 rlb rhb rlc rhc)
  have rc := And.intro (clo_rg rla hk1) (And.intro (chi_rg rha hk1) (And.intro (clo_rg rlb hk1) (chi_rg rhb hk1)))
  clear i1 i2 oa ob oc
  obtain ⟨Ba_0, Ba_1, Ba_2, Ba_3, Ba_4, Ba_5⟩ := id Ba
  have Ba_l := World.block_lt_of_cell? _ _ Ba_0
  go_wp2_with fail
  refine (iroot_no _ _ la ha _ k (by first | rfl | omega) na za).mono ?_
  rintro _ w4 ⟨v4, rfl, ir, f4⟩
  clear Ba_0 Ba_1 Ba_2 Ba_3 Ba_4 Ba_5 Ba_l
  have e4 : Ext w3 w4 := (Ext.refl w3).trans f4
  replace T := T.ext e4
  replace na := na.ext e4
  replace nb := nb.ext e4
  replace nc := nc.ext e4
  replace Ba := Ba.ext e4
  replace Bb := Bb.ext e4
  replace Bc := Bc.ext e4
  have E4 : Ext w w4 := E3.trans e4
  clear e4 f4 E3
  obtain ⟨bir, Air, lir, cir, jir, bir', Air', lir', cir', jir', rfl, ir_l, ir_h⟩ := ir
  have ir := In.mk ir_l ir_h
  clear ir_l ir_h
  obtain ⟨Bb_0, Bb_1, Bb_2, Bb_3, Bb_4, Bb_5⟩ := id Bb
  have Bb_l := World.block_lt_of_cell? _ _ Bb_0
  go_wp2_with fail
  refine (iroot_no _ _ lb hb _ k (by first | rfl | omega) (nb.ext ((Ext.refl w4).alloc _)) zb).mono ?_
  rintro _ w5 ⟨v5, rfl, iq, f5⟩
  clear Bb_0 Bb_1 Bb_2 Bb_3 Bb_4 Bb_5 Bb_l
  have Vir : Bx w5 (w4.heap.size) (.bool bir) (.slice Air lir cir) (.int .i64 jir) (.bool bir') (.slice Air' lir' cir') (.int .i64 jir') := Bx.at ((Ext.refl _).trans f5) (by simp)
  have e5 : Ext w4 w5 := ((Ext.refl w4).alloc _).trans f5
  replace T := T.ext e5
  replace na := na.ext e5
  replace nb := nb.ext e5
  replace nc := nc.ext e5
  replace ir := ir.ext e5
  replace Ba := Ba.ext e5
  replace Bb := Bb.ext e5
  replace Bc := Bc.ext e5
  have E5 : Ext w w5 := E4.trans e5
  clear e5 f5 E4
  obtain ⟨biq, Aiq, liq, ciq, jiq, biq', Aiq', liq', ciq', jiq', rfl, iq_l, iq_h⟩ := iq
  have iq := In.mk iq_l iq_h
  clear iq_l iq_h
  obtain ⟨Vir_0, Vir_1, Vir_2, Vir_3, Vir_4, Vir_5⟩ := id Vir
  have Vir_l := World.block_lt_of_cell? _ _ Vir_0
  go_wp2_with fail
  refine (riright_lit _ _ _ _ 260 1046 true (HQ.out.2.2.2.2.1) (ir.ext ((Ext.refl w5).alloc _)) (rg_zero _ _) (rg_zero _ _) (by omega)).mono ?_
  rintro _ w6 ⟨rfl, f6⟩
  clear Vir_0 Vir_1 Vir_2 Vir_3 Vir_4 Vir_5 Vir_l
  have Viq : Bx w6 (w5.heap.size) (.bool biq) (.slice Aiq liq ciq) (.int .i64 jiq) (.bool biq') (.slice Aiq' liq' ciq') (.int .i64 jiq') := Bx.at ((Ext.refl _).trans f6) (by simp)
  have e6 : Ext w5 w6 := ((Ext.refl w5).alloc _).trans f6
  replace T := T.ext e6
  replace na := na.ext e6
  replace nb := nb.ext e6
  replace nc := nc.ext e6
  replace ir := ir.ext e6
  replace iq := iq.ext e6
  replace Ba := Ba.ext e6
  replace Bb := Bb.ext e6
  replace Bc := Bc.ext e6
  replace Vir := Vir.ext e6
  have E6 : Ext w w6 := E5.trans e6
  clear e6 f6 E5
  obtain ⟨Viq_0, Viq_1, Viq_2, Viq_3, Viq_4, Viq_5⟩ := id Viq
  have Viq_l := World.block_lt_of_cell? _ _ Viq_0
  go_wp2_with fail
  refine (riright_lit _ _ _ _ 260 1046 true (HQ.out.2.2.2.2.2) iq (rg_zero _ _) (rg_zero _ _) (by omega)).mono ?_
  rintro _ w7 ⟨rfl, f7⟩
  clear Viq_0 Viq_1 Viq_2 Viq_3 Viq_4 Viq_5 Viq_l
  have e7 : Ext w6 w7 := (Ext.refl w6).trans f7
  replace T := T.ext e7
  replace na := na.ext e7
  replace nb := nb.ext e7
  replace nc := nc.ext e7
  replace ir := ir.ext e7
  replace iq := iq.ext e7
  replace Ba := Ba.ext e7
  replace Bb := Bb.ext e7
  replace Bc := Bc.ext e7
  replace Vir := Vir.ext e7
  replace Viq := Viq.ext e7
  have E7 : Ext w w7 := E6.trans e7
  clear e7 f7 E6
  go_wp2
  try simp only [List.append_eq, List.cons_append, List.nil_append]
  obtain ⟨Ba_0, Ba_1, Ba_2, Ba_3, Ba_4, Ba_5⟩ := id Ba
  have Ba_l := World.block_lt_of_cell? _ _ Ba_0
  obtain ⟨Bb_0, Bb_1, Bb_2, Bb_3, Bb_4, Bb_5⟩ := id Bb
  have Bb_l := World.block_lt_of_cell? _ _ Bb_0
  obtain ⟨Bc_0, Bc_1, Bc_2, Bc_3, Bc_4, Bc_5⟩ := id Bc
  have Bc_l := World.block_lt_of_cell? _ _ Bc_0
  obtain ⟨Vir_0, Vir_1, Vir_2, Vir_3, Vir_4, Vir_5⟩ := id Vir
  have Vir_l := World.block_lt_of_cell? _ _ Vir_0
  obtain ⟨Viq_0, Viq_1, Viq_2, Viq_3, Viq_4, Viq_5⟩ := id Viq
  have Viq_l := World.block_lt_of_cell? _ _ Viq_0
  refine wp_region_held_drew (S := (fun w' => (w'.cell? ⟨w.heap.size, 0, none⟩ = some (.bool nba) ∧ w'.cell? ⟨w.heap.size, 1, none⟩ = some (Ma) ∧ w'.cell? ⟨w.heap.size, 2, none⟩ = some (.int .i64 ia) ∧ w'.cell? ⟨w.heap.size, 3, none⟩ = some (.bool nba') ∧ w'.cell? ⟨w.heap.size, 4, none⟩ = some (Ma') ∧ w'.cell? ⟨w.heap.size, 5, none⟩ = some (.int .i64 ia')) ∧ (w'.cell? ⟨w.heap.size + 1, 0, none⟩ = some (.bool nbb) ∧ w'.cell? ⟨w.heap.size + 1, 1, none⟩ = some (Mb) ∧ w'.cell? ⟨w.heap.size + 1, 2, none⟩ = some (.int .i64 ib) ∧ w'.cell? ⟨w.heap.size + 1, 3, none⟩ = some (.bool nbb') ∧ w'.cell? ⟨w.heap.size + 1, 4, none⟩ = some (Mb') ∧ w'.cell? ⟨w.heap.size + 1, 5, none⟩ = some (.int .i64 ib')) ∧ (w'.cell? ⟨w.heap.size + 1 + 1, 0, none⟩ = some (.bool nbc) ∧ w'.cell? ⟨w.heap.size + 1 + 1, 1, none⟩ = some (Mc) ∧ w'.cell? ⟨w.heap.size + 1 + 1, 2, none⟩ = some (.int .i64 ic) ∧ w'.cell? ⟨w.heap.size + 1 + 1, 3, none⟩ = some (.bool nbc') ∧ w'.cell? ⟨w.heap.size + 1 + 1, 4, none⟩ = some (Mc') ∧ w'.cell? ⟨w.heap.size + 1 + 1, 5, none⟩ = some (.int .i64 ic')) ∧ (w'.cell? ⟨w4.heap.size, 0, none⟩ = some (.bool bir) ∧ w'.cell? ⟨w4.heap.size, 1, none⟩ = some (.slice Air lir cir) ∧ w'.cell? ⟨w4.heap.size, 2, none⟩ = some (.int .i64 jir) ∧ w'.cell? ⟨w4.heap.size, 3, none⟩ = some (.bool bir') ∧ w'.cell? ⟨w4.heap.size, 4, none⟩ = some (.slice Air' lir' cir') ∧ w'.cell? ⟨w4.heap.size, 5, none⟩ = some (.int .i64 jir')) ∧ (w'.cell? ⟨w5.heap.size, 0, none⟩ = some (.bool biq) ∧ w'.cell? ⟨w5.heap.size, 1, none⟩ = some (.slice Aiq liq ciq) ∧ w'.cell? ⟨w5.heap.size, 2, none⟩ = some (.int .i64 jiq) ∧ w'.cell? ⟨w5.heap.size, 3, none⟩ = some (.bool biq') ∧ w'.cell? ⟨w5.heap.size, 4, none⟩ = some (.slice Aiq' liq' ciq') ∧ w'.cell? ⟨w5.heap.size, 5, none⟩ = some (.int .i64 jiq')))) (by as_aux_lemma => kernel_rfl) ⟨bx6 (Ba.ext (Ext.refl w7).drew), bx6 (Bb.ext (Ext.refl w7).drew), bx6 (Bc.ext (Ext.refl w7).drew), bx6 (Vir.ext (Ext.refl w7).drew), bx6 (Viq.ext (Ext.refl w7).drew)⟩ (fun hHeld => ?_)
  refine wpAnyH_take (i := 0) (v := ?_) rfl (by as_aux_lemma => kernel_rfl) (by as_aux_lemma => kernel_rfl) (by as_aux_lemma => kernel_rfl) (fun _ _ _ h => h) (Or.inl ⟨by rfl, ?_⟩) (by assumption) ?_
  rotate_left
  · (intro w hSw; (try dsimp only at hSw); go_simp); (try with_reducible rfl)
  simp only [List.getElem_toArray, List.getElem_cons_zero, Act.put, List.setIfInBounds_toArray, List.set_cons_zero, List.set_cons_succ]
  refine wpAnyH_take (i := 1) (v := ?_) rfl (by as_aux_lemma => kernel_rfl) (by as_aux_lemma => kernel_rfl) (by as_aux_lemma => kernel_rfl) (fun _ _ _ h => h) (Or.inl ⟨by rfl, ?_⟩) (by assumption) ?_
  rotate_left
  · (intro w hSw; (try dsimp only at hSw); go_simp); (try with_reducible rfl)
  simp only [List.getElem_toArray, List.getElem_cons_zero, List.getElem_cons_succ, Act.put, List.setIfInBounds_toArray, List.set_cons_zero, List.set_cons_succ]
  refine wpAnyH_take (i := 2) (v := ?_) rfl (by as_aux_lemma => kernel_rfl) (by as_aux_lemma => kernel_rfl) (by as_aux_lemma => kernel_rfl) (fun _ _ _ h => h) (Or.inl ⟨by rfl, ?_⟩) (by assumption) ?_
  rotate_left
  · (intro w hSw; (try dsimp only at hSw); go_simp); (try with_reducible rfl)
  simp only [List.getElem_toArray, List.getElem_cons_zero, List.getElem_cons_succ, Act.put, List.setIfInBounds_toArray, List.set_cons_zero, List.set_cons_succ]
  refine wpAnyH_take (i := 3) (v := ?_) rfl (by as_aux_lemma => kernel_rfl) (by as_aux_lemma => kernel_rfl) (by as_aux_lemma => kernel_rfl) (fun _ _ _ h => h) (Or.inl ⟨by rfl, ?_⟩) (by assumption) ?_
  rotate_left
  · (intro w hSw; (try dsimp only at hSw); go_simp); (try with_reducible rfl)
  simp only [List.getElem_toArray, List.getElem_cons_zero, List.getElem_cons_succ, Act.put, List.setIfInBounds_toArray, List.set_cons_zero, List.set_cons_succ]
  refine wpAnyH_take (i := 5) (v := ?_) rfl (by as_aux_lemma => kernel_rfl) (by as_aux_lemma => kernel_rfl) (by as_aux_lemma => kernel_rfl) (fun _ _ _ h => h) (Or.inl ⟨by rfl, ?_⟩) (by assumption) ?_
  rotate_left
  · (intro w hSw; (try dsimp only at hSw); go_simp); (try with_reducible rfl)
  simp only [List.getElem_toArray, List.getElem_cons_zero, List.getElem_cons_succ, Act.put, List.setIfInBounds_toArray, List.set_cons_zero, List.set_cons_succ]
  refine wpAnyH_take (i := 6) (v := ?_) rfl (by as_aux_lemma => kernel_rfl) (by as_aux_lemma => kernel_rfl) (by as_aux_lemma => kernel_rfl) (fun _ _ _ h => h) (Or.inl ⟨by rfl, ?_⟩) (by assumption) ?_
  rotate_left
  · (intro w hSw; (try dsimp only at hSw); go_simp); (try with_reducible rfl)
  simp only [List.getElem_toArray, List.getElem_cons_zero, List.getElem_cons_succ, Act.put, List.setIfInBounds_toArray, List.set_cons_zero, List.set_cons_succ]
  refine wpAnyH_ready (rs := [4]) (by as_aux_lemma => kernel_rfl) (by simp) ?_
  refine AllReadyH.cons rfl (fun K hK => ?_) AllReadyH.nil
  go_simp
  refine (iadd_any _ _ _ la ha lc hc 200 392 (na.ext (Ext.refl w7).drew) (nc.ext (Ext.refl w7).drew) rla rha rlc rhc (by omega) (T.ext (Ext.refl w7).drew)).mono ?_
  rintro _ u1 ⟨vu1, rfl, m1, eu1⟩
  have F1 : Ext w7 u1 := (Ext.refl w7).drew.trans eu1
  refine hK.out _ _ ⟨bx6 (Ba.ext F1), bx6 (Bb.ext F1), bx6 (Bc.ext F1), bx6 (Vir.ext F1), bx6 (Viq.ext F1)⟩ (fun hHeld => ?_)
  clear hK K eu1
  refine wpAnyH_ready (rs := [7]) (by as_aux_lemma => kernel_rfl) (by simp) ?_
  refine AllReadyH.cons rfl (fun K hK => ?_) AllReadyH.nil
  go_simp
  refine (iadd_any _ _ _ lb hb lc hc 200 392 (nb.ext F1) (nc.ext F1) rlb rhb rlc rhc (by omega) (T.ext F1)).mono ?_
  rintro _ u2 ⟨vu2, rfl, m2, eu2⟩
  have F2 : Ext w7 u2 := F1.trans eu2
  replace m1 := m1.ext eu2
  refine hK.out _ _ ⟨bx6 (Ba.ext F2), bx6 (Bb.ext F2), bx6 (Bc.ext F2), bx6 (Vir.ext F2), bx6 (Viq.ext F2)⟩ (fun hHeld => ?_)
  clear hK K eu2 F1
  refine wpAnyH_ready (rs := [8]) (by as_aux_lemma => kernel_rfl) (by simp) ?_
  refine AllReadyH.cons rfl (fun K hK => ?_) AllReadyH.nil
  go_simp
  refine (inside_lit _ _ _ _ _ _ _ 200 393 200 393 true HQ.out.1 m1 m2 rs.1 rs.2.1 rs.2.2.1 rs.2.2.2 (by omega) (by omega)).mono ?_
  rintro _ u3 ⟨rfl, eu3⟩
  have F3 : Ext w7 u3 := F2.trans eu3
  replace m1 := m1.ext eu3
  replace m2 := m2.ext eu3
  refine hK.out _ _ ⟨bx6 (Ba.ext F3), bx6 (Bb.ext F3), bx6 (Bc.ext F3), bx6 (Vir.ext F3), bx6 (Viq.ext F3)⟩ (fun hHeld => ?_)
  clear hK K eu3 F2
  refine wpAnyH_take (i := 9) (v := ?_) rfl (by as_aux_lemma => kernel_rfl) (by as_aux_lemma => kernel_rfl) (by as_aux_lemma => kernel_rfl) (fun _ _ _ h => h) (Or.inl ⟨by rfl, ?_⟩) (by assumption) ?_
  rotate_left
  · (intro w hSw; (try dsimp only at hSw); go_simp); (try with_reducible rfl)
  simp only [List.getElem_toArray, List.getElem_cons_zero, List.getElem_cons_succ, Act.put, List.setIfInBounds_toArray, List.set_cons_zero, List.set_cons_succ]
  refine wpAnyH_take (i := 10) (v := ?_) rfl (by as_aux_lemma => kernel_rfl) (by as_aux_lemma => kernel_rfl) (by as_aux_lemma => kernel_rfl) (fun _ _ _ h => h) (Or.inl ⟨by rfl, ?_⟩) (by assumption) ?_
  rotate_left
  · (intro w hSw; (try dsimp only at hSw); go_simp); (try with_reducible rfl)
  simp only [List.getElem_toArray, List.getElem_cons_zero, List.getElem_cons_succ, Act.put, List.setIfInBounds_toArray, List.set_cons_zero, List.set_cons_succ]
  refine wpAnyH_take (i := 11) (v := ?_) rfl (by as_aux_lemma => kernel_rfl) (by as_aux_lemma => kernel_rfl) (by as_aux_lemma => kernel_rfl) (fun _ _ _ h => h) (Or.inl ⟨by rfl, ?_⟩) (by assumption) ?_
  rotate_left
  · (intro w hSw; (try dsimp only at hSw); go_simp); (try with_reducible rfl)
  simp only [List.getElem_toArray, List.getElem_cons_zero, List.getElem_cons_succ, Act.put, List.setIfInBounds_toArray, List.set_cons_zero, List.set_cons_succ]
  refine wpAnyH_take (i := 12) (v := ?_) rfl (by as_aux_lemma => kernel_rfl) (by as_aux_lemma => kernel_rfl) (by as_aux_lemma => kernel_rfl) (fun _ _ _ h => h) (Or.inl ⟨by rfl, ?_⟩) (by assumption) ?_
  rotate_left
  · (intro w hSw; (try dsimp only at hSw); go_simp); (try with_reducible rfl)
  simp only [List.getElem_toArray, List.getElem_cons_zero, List.getElem_cons_succ, Act.put, List.setIfInBounds_toArray, List.set_cons_zero, List.set_cons_succ]
  refine wpAnyH_take (i := 14) (v := ?_) rfl (by as_aux_lemma => kernel_rfl) (by as_aux_lemma => kernel_rfl) (by as_aux_lemma => kernel_rfl) (fun _ _ _ h => h) (Or.inl ⟨by rfl, ?_⟩) (by assumption) ?_
  rotate_left
  · (intro w hSw; (try dsimp only at hSw); go_simp); (try with_reducible rfl)
  simp only [List.getElem_toArray, List.getElem_cons_zero, List.getElem_cons_succ, Act.put, List.setIfInBounds_toArray, List.set_cons_zero, List.set_cons_succ]
  refine wpAnyH_take (i := 15) (v := ?_) rfl (by as_aux_lemma => kernel_rfl) (by as_aux_lemma => kernel_rfl) (by as_aux_lemma => kernel_rfl) (fun _ _ _ h => h) (Or.inl ⟨by rfl, ?_⟩) (by assumption) ?_
  rotate_left
  · (intro w hSw; (try dsimp only at hSw); go_simp); (try with_reducible rfl)
  simp only [List.getElem_toArray, List.getElem_cons_zero, List.getElem_cons_succ, Act.put, List.setIfInBounds_toArray, List.set_cons_zero, List.set_cons_succ]
  refine wpAnyH_ready (rs := [13]) (by as_aux_lemma => kernel_rfl) (by simp) ?_
  refine AllReadyH.cons rfl (fun K hK => ?_) AllReadyH.nil
  go_simp
  refine (imul_any _ _ _ la ha lc hc 200 392 200 392 (na.ext F3) (nc.ext F3) rla rha rlc rhc (by omega) (T.ext F3)).mono ?_
  rintro _ u4 ⟨vu4, rfl, m4, eu4⟩
  have F4 : Ext w7 u4 := F3.trans eu4
  refine hK.out _ _ ⟨bx6 (Ba.ext F4), bx6 (Bb.ext F4), bx6 (Bc.ext F4), bx6 (Vir.ext F4), bx6 (Viq.ext F4)⟩ (fun hHeld => ?_)
  clear hK K eu4 F3 m1 m2
  refine wpAnyH_ready (rs := [16]) (by as_aux_lemma => kernel_rfl) (by simp) ?_
  refine AllReadyH.cons rfl (fun K hK => ?_) AllReadyH.nil
  go_simp
  refine (imul_any _ _ _ lb hb lc hc 200 392 200 392 (nb.ext F4) (nc.ext F4) rlb rhb rlc rhc (by omega) (T.ext F4)).mono ?_
  rintro _ u5 ⟨vu5, rfl, m5, eu5⟩
  have F5 : Ext w7 u5 := F4.trans eu5
  replace m4 := m4.ext eu5
  refine hK.out _ _ ⟨bx6 (Ba.ext F5), bx6 (Bb.ext F5), bx6 (Bc.ext F5), bx6 (Vir.ext F5), bx6 (Viq.ext F5)⟩ (fun hHeld => ?_)
  clear hK K eu5 F4
  refine wpAnyH_ready (rs := [17]) (by as_aux_lemma => kernel_rfl) (by simp) ?_
  refine AllReadyH.cons rfl (fun K hK => ?_) AllReadyH.nil
  go_simp
  refine (inside_lit _ _ _ _ _ _ _ 400 784 400 784 true HQ.out.2.1 m4 m5 rm.1.1 rm.1.2 rm.2.1 rm.2.2 (by omega) (by omega)).mono ?_
  rintro _ u6 ⟨rfl, eu6⟩
  have F6 : Ext w7 u6 := F5.trans eu6
  replace m4 := m4.ext eu6
  replace m5 := m5.ext eu6
  refine hK.out _ _ ⟨bx6 (Ba.ext F6), bx6 (Bb.ext F6), bx6 (Bc.ext F6), bx6 (Vir.ext F6), bx6 (Viq.ext F6)⟩ (fun hHeld => ?_)
  clear hK K eu6 F5
  refine wpAnyH_take (i := 18) (v := ?_) rfl (by as_aux_lemma => kernel_rfl) (by as_aux_lemma => kernel_rfl) (by as_aux_lemma => kernel_rfl) (fun _ _ _ h => h) (Or.inl ⟨by rfl, ?_⟩) (by assumption) ?_
  rotate_left
  · (intro w hSw; (try dsimp only at hSw); go_simp); (try with_reducible rfl)
  simp only [List.getElem_toArray, List.getElem_cons_zero, List.getElem_cons_succ, Act.put, List.setIfInBounds_toArray, List.set_cons_zero, List.set_cons_succ]
  refine wpAnyH_take (i := 19) (v := ?_) rfl (by as_aux_lemma => kernel_rfl) (by as_aux_lemma => kernel_rfl) (by as_aux_lemma => kernel_rfl) (fun _ _ _ h => h) (Or.inl ⟨by rfl, ?_⟩) (by assumption) ?_
  rotate_left
  · (intro w hSw; (try dsimp only at hSw); go_simp); (try with_reducible rfl)
  simp only [List.getElem_toArray, List.getElem_cons_zero, List.getElem_cons_succ, Act.put, List.setIfInBounds_toArray, List.set_cons_zero, List.set_cons_succ]
  refine wpAnyH_take (i := 20) (v := ?_) rfl (by as_aux_lemma => kernel_rfl) (by as_aux_lemma => kernel_rfl) (by as_aux_lemma => kernel_rfl) (fun _ _ _ h => h) (Or.inl ⟨by rfl, ?_⟩) (by assumption) ?_
  rotate_left
  · (intro w hSw; (try dsimp only at hSw); go_simp); (try with_reducible rfl)
  simp only [List.getElem_toArray, List.getElem_cons_zero, List.getElem_cons_succ, Act.put, List.setIfInBounds_toArray, List.set_cons_zero, List.set_cons_succ]
  refine wpAnyH_take (i := 21) (v := ?_) rfl (by as_aux_lemma => kernel_rfl) (by as_aux_lemma => kernel_rfl) (by as_aux_lemma => kernel_rfl) (fun _ _ _ h => h) (Or.inl ⟨by rfl, ?_⟩) (by assumption) ?_
  rotate_left
  · (intro w hSw; (try dsimp only at hSw); go_simp); (try with_reducible rfl)
  simp only [List.getElem_toArray, List.getElem_cons_zero, List.getElem_cons_succ, Act.put, List.setIfInBounds_toArray, List.set_cons_zero, List.set_cons_succ]
  refine wpAnyH_take (i := 23) (v := ?_) rfl (by as_aux_lemma => kernel_rfl) (by as_aux_lemma => kernel_rfl) (by as_aux_lemma => kernel_rfl) (fun _ _ _ h => h) (Or.inl ⟨by rfl, ?_⟩) (by assumption) ?_
  rotate_left
  · (intro w hSw; (try dsimp only at hSw); go_simp); (try with_reducible rfl)
  simp only [List.getElem_toArray, List.getElem_cons_zero, List.getElem_cons_succ, Act.put, List.setIfInBounds_toArray, List.set_cons_zero, List.set_cons_succ]
  refine wpAnyH_take (i := 24) (v := ?_) rfl (by as_aux_lemma => kernel_rfl) (by as_aux_lemma => kernel_rfl) (by as_aux_lemma => kernel_rfl) (fun _ _ _ h => h) (Or.inl ⟨by rfl, ?_⟩) (by assumption) ?_
  rotate_left
  · (intro w hSw; (try dsimp only at hSw); go_simp); (try with_reducible rfl)
  simp only [List.getElem_toArray, List.getElem_cons_zero, List.getElem_cons_succ, Act.put, List.setIfInBounds_toArray, List.set_cons_zero, List.set_cons_succ]
  refine wpAnyH_ready (rs := [22]) (by as_aux_lemma => kernel_rfl) (by simp) ?_
  refine AllReadyH.cons rfl (fun K hK => ?_) AllReadyH.nil
  go_simp
  refine (icut_any _ _ la ha _ k 200 392 (by first | rfl | omega) (na.ext F6) rla rha (by omega) hk1 (by omega) (T.ext F6)).mono ?_
  rintro _ u7 ⟨vu7, rfl, m7, eu7⟩
  have F7 : Ext w7 u7 := F6.trans eu7
  refine hK.out _ _ ⟨bx6 (Ba.ext F7), bx6 (Bb.ext F7), bx6 (Bc.ext F7), bx6 (Vir.ext F7), bx6 (Viq.ext F7)⟩ (fun hHeld => ?_)
  clear hK K eu7 F6 m4 m5
  refine wpAnyH_ready (rs := [25]) (by as_aux_lemma => kernel_rfl) (by simp) ?_
  refine AllReadyH.cons rfl (fun K hK => ?_) AllReadyH.nil
  go_simp
  refine (icut_any _ _ lb hb _ k 200 392 (by first | rfl | omega) (nb.ext F7) rlb rhb (by omega) hk1 (by omega) (T.ext F7)).mono ?_
  rintro _ u8 ⟨vu8, rfl, m8, eu8⟩
  have F8 : Ext w7 u8 := F7.trans eu8
  replace m7 := m7.ext eu8
  refine hK.out _ _ ⟨bx6 (Ba.ext F8), bx6 (Bb.ext F8), bx6 (Bc.ext F8), bx6 (Vir.ext F8), bx6 (Viq.ext F8)⟩ (fun hHeld => ?_)
  clear hK K eu8 F7
  refine wpAnyH_ready (rs := [26]) (by as_aux_lemma => kernel_rfl) (by simp) ?_
  refine AllReadyH.cons rfl (fun K hK => ?_) AllReadyH.nil
  go_simp
  refine (inside_lit _ _ _ _ _ _ _ 200 393 200 393 true HQ.out.2.2.1 m7 m8 rc.1 rc.2.1 rc.2.2.1 rc.2.2.2 (by omega) (by omega)).mono ?_
  rintro _ u9 ⟨rfl, eu9⟩
  have F9 : Ext w7 u9 := F8.trans eu9
  replace m7 := m7.ext eu9
  replace m8 := m8.ext eu9
  refine hK.out _ _ ⟨bx6 (Ba.ext F9), bx6 (Bb.ext F9), bx6 (Bc.ext F9), bx6 (Vir.ext F9), bx6 (Viq.ext F9)⟩ (fun hHeld => ?_)
  clear hK K eu9 F8
  refine wpAnyH_take (i := 27) (v := ?_) rfl (by as_aux_lemma => kernel_rfl) (by as_aux_lemma => kernel_rfl) (by as_aux_lemma => kernel_rfl) (fun _ _ _ h => h) (Or.inl ⟨by rfl, ?_⟩) (by assumption) ?_
  rotate_left
  · (intro w hSw; (try dsimp only at hSw); go_simp); (try with_reducible rfl)
  simp only [List.getElem_toArray, List.getElem_cons_zero, List.getElem_cons_succ, Act.put, List.setIfInBounds_toArray, List.set_cons_zero, List.set_cons_succ]
  refine wpAnyH_take (i := 28) (v := ?_) rfl (by as_aux_lemma => kernel_rfl) (by as_aux_lemma => kernel_rfl) (by as_aux_lemma => kernel_rfl) (fun _ _ _ h => h) (Or.inl ⟨by rfl, ?_⟩) (by assumption) ?_
  rotate_left
  · (intro w hSw; (try dsimp only at hSw); go_simp); (try with_reducible rfl)
  simp only [List.getElem_toArray, List.getElem_cons_zero, List.getElem_cons_succ, Act.put, List.setIfInBounds_toArray, List.set_cons_zero, List.set_cons_succ]
  refine wpAnyH_take (i := 29) (v := ?_) rfl (by as_aux_lemma => kernel_rfl) (by as_aux_lemma => kernel_rfl) (by as_aux_lemma => kernel_rfl) (fun _ _ _ h => h) (Or.inl ⟨by rfl, ?_⟩) (by assumption) ?_
  rotate_left
  · (intro w hSw; (try dsimp only at hSw); go_simp); (try with_reducible rfl)
  simp only [List.getElem_toArray, List.getElem_cons_zero, List.getElem_cons_succ, Act.put, List.setIfInBounds_toArray, List.set_cons_zero, List.set_cons_succ]
  refine wpAnyH_take (i := 30) (v := ?_) rfl (by as_aux_lemma => kernel_rfl) (by as_aux_lemma => kernel_rfl) (by as_aux_lemma => kernel_rfl) (fun _ _ _ h => h) (Or.inl ⟨by rfl, ?_⟩) (by assumption) ?_
  rotate_left
  · (intro w hSw; (try dsimp only at hSw); go_simp); (try with_reducible rfl)
  simp only [List.getElem_toArray, List.getElem_cons_zero, List.getElem_cons_succ, Act.put, List.setIfInBounds_toArray, List.set_cons_zero, List.set_cons_succ]
  refine wpAnyH_take (i := 31) (v := ?_) rfl (by as_aux_lemma => kernel_rfl) (by as_aux_lemma => kernel_rfl) (by as_aux_lemma => kernel_rfl) (fun _ _ _ h => h) (Or.inl ⟨by rfl, ?_⟩) (by assumption) ?_
  rotate_left
  · (intro w hSw; (try dsimp only at hSw); go_simp); (try with_reducible rfl)
  simp only [List.getElem_toArray, List.getElem_cons_zero, List.getElem_cons_succ, Act.put, List.setIfInBounds_toArray, List.set_cons_zero, List.set_cons_succ]
  refine wpAnyH_ready (rs := [32]) (by as_aux_lemma => kernel_rfl) (by simp) ?_
  refine AllReadyH.cons rfl (fun K hK => ?_) AllReadyH.nil
  go_simp
  refine (icut_any _ _ la ha _ k 200 392 (by first | rfl | omega) (na.ext F9) rla rha (by omega) hk1 (by omega) (T.ext F9)).mono ?_
  rintro _ u10 ⟨vu10, rfl, m10, eu10⟩
  have F10 : Ext w7 u10 := F9.trans eu10
  refine hK.out _ _ ⟨bx6 (Ba.ext F10), bx6 (Bb.ext F10), bx6 (Bc.ext F10), bx6 (Vir.ext F10), bx6 (Viq.ext F10)⟩ (fun hHeld => ?_)
  clear hK K eu10 F9 m7 m8
  refine wpAnyH_ready (rs := [33]) (by as_aux_lemma => kernel_rfl) (by simp) ?_
  refine AllReadyH.cons rfl (fun K hK => ?_) AllReadyH.nil
  go_simp
  refine (inside_lit _ _ _ _ _ _ _ 200 393 200 393 true HQ.out.2.2.2.1 (na.ext F10) m10 pa.1 pa.2 rc.1 rc.2.1 (by omega) (by omega)).mono ?_
  rintro _ u11 ⟨rfl, eu11⟩
  have F11 : Ext w7 u11 := F10.trans eu11
  replace m10 := m10.ext eu11
  refine hK.out _ _ ⟨bx6 (Ba.ext F11), bx6 (Bb.ext F11), bx6 (Bc.ext F11), bx6 (Vir.ext F11), bx6 (Viq.ext F11)⟩ (fun hHeld => ?_)
  clear hK K eu11 F10
  refine wpAnyH_take (i := 34) (v := ?_) rfl (by as_aux_lemma => kernel_rfl) (by as_aux_lemma => kernel_rfl) (by as_aux_lemma => kernel_rfl) (fun _ _ _ h => h) (Or.inl ⟨by rfl, ?_⟩) (by assumption) ?_
  rotate_left
  · (intro w hSw; (try dsimp only at hSw); go_simp); (try with_reducible rfl)
  simp only [List.getElem_toArray, List.getElem_cons_zero, List.getElem_cons_succ, Act.put, List.setIfInBounds_toArray, List.set_cons_zero, List.set_cons_succ]
  refine wpAnyH_take (i := 35) (v := ?_) rfl (by as_aux_lemma => kernel_rfl) (by as_aux_lemma => kernel_rfl) (by as_aux_lemma => kernel_rfl) (fun _ _ _ h => h) (Or.inl ⟨by rfl, ?_⟩) (by assumption) ?_
  rotate_left
  · (intro w hSw; (try dsimp only at hSw); go_simp); (try with_reducible rfl)
  simp only [List.getElem_toArray, List.getElem_cons_zero, List.getElem_cons_succ, Act.put, List.setIfInBounds_toArray, List.set_cons_zero, List.set_cons_succ]
  refine wpAnyH_take (i := 36) (v := ?_) rfl (by as_aux_lemma => kernel_rfl) (by as_aux_lemma => kernel_rfl) (by as_aux_lemma => kernel_rfl) (fun _ _ _ h => h) (Or.inl ⟨by rfl, ?_⟩) (by assumption) ?_
  rotate_left
  · (intro w hSw; (try dsimp only at hSw); go_simp); (try with_reducible rfl)
  simp only [List.getElem_toArray, List.getElem_cons_zero, List.getElem_cons_succ, Act.put, List.setIfInBounds_toArray, List.set_cons_zero, List.set_cons_succ]
  refine wpAnyH_take (i := 37) (v := ?_) rfl (by as_aux_lemma => kernel_rfl) (by as_aux_lemma => kernel_rfl) (by as_aux_lemma => kernel_rfl) (fun _ _ _ h => h) (Or.inl ⟨by rfl, ?_⟩) (by assumption) ?_
  rotate_left
  · (intro w hSw; (try dsimp only at hSw); go_simp); (try with_reducible rfl)
  simp only [List.getElem_toArray, List.getElem_cons_zero, List.getElem_cons_succ, Act.put, List.setIfInBounds_toArray, List.set_cons_zero, List.set_cons_succ]
  refine wpAnyH_take (i := 38) (v := ?_) rfl (by as_aux_lemma => kernel_rfl) (by as_aux_lemma => kernel_rfl) (by as_aux_lemma => kernel_rfl) (fun _ _ _ h => h) (Or.inl ⟨by rfl, ?_⟩) (by assumption) ?_
  rotate_left
  · (intro w hSw; (try dsimp only at hSw); go_simp); (try with_reducible rfl)
  simp only [List.getElem_toArray, List.getElem_cons_zero, List.getElem_cons_succ, Act.put, List.setIfInBounds_toArray, List.set_cons_zero, List.set_cons_succ]
  refine wpAnyH_take (i := 39) (v := undef) rfl (by as_aux_lemma => kernel_rfl) (by as_aux_lemma => kernel_rfl) (by as_aux_lemma => kernel_rfl) (fun _ _ _ h => h) (Or.inr ⟨by rfl, rfl⟩) (by assumption) ?_
  simp only [List.getElem_toArray, List.getElem_cons_zero, List.getElem_cons_succ, Act.put, List.setIfInBounds_toArray, List.set_cons_zero, List.set_cons_succ]
  refine wpAnyH_take (i := 40) (v := undef) rfl (by as_aux_lemma => kernel_rfl) (by as_aux_lemma => kernel_rfl) (by as_aux_lemma => kernel_rfl) (fun _ _ _ h => h) (Or.inr ⟨by rfl, rfl⟩) (by assumption) ?_
  simp only [List.getElem_toArray, List.getElem_cons_zero, List.getElem_cons_succ, Act.put, List.setIfInBounds_toArray, List.set_cons_zero, List.set_cons_succ]
  refine wpAnyH_take (i := 41) (v := undef) rfl (by as_aux_lemma => kernel_rfl) (by as_aux_lemma => kernel_rfl) (by as_aux_lemma => kernel_rfl) (fun _ _ _ h => h) (Or.inr ⟨by rfl, rfl⟩) (by assumption) ?_
  simp only [List.getElem_toArray, List.getElem_cons_zero, List.getElem_cons_succ, Act.put, List.setIfInBounds_toArray, List.set_cons_zero, List.set_cons_succ]
  refine wpAnyH_take (i := 42) (v := ?_) rfl (by as_aux_lemma => kernel_rfl) (by as_aux_lemma => kernel_rfl) (by as_aux_lemma => kernel_rfl) (fun _ _ _ h => h) (Or.inl ⟨by rfl, ?_⟩) (by assumption) ?_
  rotate_left
  · (intro w hSw; (try dsimp only at hSw); go_simp); (try with_reducible rfl)
  simp only [List.getElem_toArray, List.getElem_cons_zero, List.getElem_cons_succ, Act.put, List.setIfInBounds_toArray, List.set_cons_zero, List.set_cons_succ]
  refine wpAnyH_take (i := 43) (v := ?_) rfl (by as_aux_lemma => kernel_rfl) (by as_aux_lemma => kernel_rfl) (by as_aux_lemma => kernel_rfl) (fun _ _ _ h => h) (Or.inl ⟨by rfl, ?_⟩) (by assumption) ?_
  rotate_left
  · (intro w hSw; (try dsimp only at hSw); go_simp); (try with_reducible rfl)
  simp only [List.getElem_toArray, List.getElem_cons_zero, List.getElem_cons_succ, Act.put, List.setIfInBounds_toArray, List.set_cons_zero, List.set_cons_succ]
  refine wpAnyH_take (i := 44) (v := ?_) rfl (by as_aux_lemma => kernel_rfl) (by as_aux_lemma => kernel_rfl) (by as_aux_lemma => kernel_rfl) (fun _ _ _ h => h) (Or.inl ⟨by rfl, ?_⟩) (by assumption) ?_
  rotate_left
  · (intro w hSw; (try dsimp only at hSw); go_simp); (try with_reducible rfl)
  simp only [List.getElem_toArray, List.getElem_cons_zero, List.getElem_cons_succ, Act.put, List.setIfInBounds_toArray, List.set_cons_zero, List.set_cons_succ]
  refine wpAnyH_done (by as_aux_lemma => kernel_rfl) ?_ _
  go_wp2
  go_ret
  exact ⟨rfl, E7.trans F11⟩
theorem walk_IvlInside (w : World) (T : Tb w) (nba : Bool) (Ma : Value) (xa : List Int) (ia : Int) (rowa : Row w Ma xa) (bda : -9223372036854775808 ≤ ia ∧ ia ≤ 9223372036854775807) (nba' : Bool) (Ma' : Value) (xa' : List Int) (ia' : Int) (rowa' : Row w Ma' xa') (bda' : -9223372036854775808 ≤ ia' ∧ ia' ≤ 9223372036854775807) (nbb : Bool) (Mb : Value) (xb : List Int) (ib : Int) (rowb : Row w Mb xb) (bdb : -9223372036854775808 ≤ ib ∧ ib ≤ 9223372036854775807) (nbb' : Bool) (Mb' : Value) (xb' : List Int) (ib' : Int) (rowb' : Row w Mb' xb') (bdb' : -9223372036854775808 ≤ ib' ∧ ib' ≤ 9223372036854775807) (nbc : Bool) (Mc : Value) (xc : List Int) (ic : Int) (rowc : Row w Mc xc) (bdc : -9223372036854775808 ≤ ic ∧ ic ≤ 9223372036854775807) (nbc' : Bool) (Mc' : Value) (xc' : List Int) (ic' : Int) (rowc' : Row w Mc' xc') (bdc' : -9223372036854775808 ≤ ic' ∧ ic' ≤ 9223372036854775807) (n : Int) (bn : 0 ≤ n ∧ n ≤ 255) : Calls Tryd.prog 5 #[.agg #[.bool nba, Ma, .int .i64 ia, .bool nba', Ma', .int .i64 ia'], .agg #[.bool nbb, Mb, .int .i64 ib, .bool nbb', Mb', .int .i64 ib'], .agg #[.bool nbc, Mc, .int .i64 ic, .bool nbc', Mc', .int .i64 ic'], .int .u8 n] w (RetE w (.bool true)) := by
  cases hg : goodIs 3 (pk nba nbb nbc) (pk xa xb xc) (pk ia ib ic) (pk nba' nbb' nbc') (pk xa' xb' xc') (pk ia' ib' ic')
  · exact inside_no w T nba Ma xa ia rowa bda nba' Ma' xa' ia' rowa' bda' nbb Mb xb ib rowb bdb nbb' Mb' xb' ib' rowb' bdb' nbc Mc xc ic rowc bdc nbc' Mc' xc' ic' rowc' bdc' n bn hg
  ·
    have hall := pk6_all (goodIs_true hg)
    obtain ⟨la, ha, na, oa, rla, rha⟩ := good_ivl rowa rowa' (hall.1 (by omega))
    obtain ⟨lb, hb, nb, ob, rlb, rhb⟩ := good_ivl rowb rowb' (hall.2.1 (by omega))
    obtain ⟨lc, hc, nc, oc, rlc, rhc⟩ := good_ivl rowc rowc' (hall.2.2 (by omega))
    cases hi : (hasB lb hb la && hasB lb hb ha)
    · exact inside_out w T nba Ma xa ia rowa bda nba' Ma' xa' ia' rowa' bda' nbb Mb xb ib rowb bdb nbb' Mb' xb' ib' rowb' bdb' nbc Mc xc ic rowc bdc nbc' Mc' xc' ic' rowc' bdc' n bn hg la ha na oa rla rha lb hb nb ob rlb rhb lc hc nc oc rlc rhc hi
    · obtain ⟨k, hkk⟩ : ∃ k : Nat, n % 60 + 1 = (k : Int) := ⟨(n % 60 + 1).toNat, by omega⟩
      have i1 := (inside_f hi).1
      by_cases zb : 0 ≤ lb
      · exact inside_yy w T nba Ma xa ia rowa bda nba' Ma' xa' ia' rowa' bda' nbb Mb xb ib rowb bdb nbb' Mb' xb' ib' rowb' bdb' nbc Mc xc ic rowc bdc nbc' Mc' xc' ic' rowc' bdc' n bn hg la ha na oa rla rha lb hb nb ob rlb rhb lc hc nc oc rlc rhc hi k hkk (by omega) (by omega) (by grind) zb
      · by_cases za : 0 ≤ la
        · exact inside_ny w T nba Ma xa ia rowa bda nba' Ma' xa' ia' rowa' bda' nbb Mb xb ib rowb bdb nbb' Mb' xb' ib' rowb' bdb' nbc Mc xc ic rowc bdc nbc' Mc' xc' ic' rowc' bdc' n bn hg la ha na oa rla rha lb hb nb ob rlb rhb lc hc nc oc rlc rhc hi k hkk (by omega) (by omega) za (by grind)
        · exact inside_nn w T nba Ma xa ia rowa bda nba' Ma' xa' ia' rowa' bda' nbb Mb xb ib rowb bdb nbb' Mb' xb' ib' rowb' bdb' nbc Mc xc ic rowc bdc nbc' Mc' xc' ic' rowc' bdc' n bn hg la ha na oa rla rha lb hb nb ob rlb rhb lc hc nc oc rlc rhc hi k hkk (by omega) (by omega) (by grind) (by grind)
end Go.Proofs.YtimdglgianheiaaDoor
