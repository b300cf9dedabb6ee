/- The walk of IvlTells: ways out ahead of the last. -/
import Derived.Test.YtimdglgianheiaaGreatDoorPI
namespace Go.Proofs.YtimdglgianheiaaGreatDoor
open Go.RowKit
set_option linter.unusedVariables false
set_option maxRecDepth 100000 in
set_option maxHeartbeats 16000000 in
theorem tells_z0 (w : World) (T : Tb w) (nbz : Bool) (Mz : Value) (xz : List Int) (iz : Int) (rowz : Row w Mz xz) (bdz : -9223372036854775808 ≤ iz ∧ iz ≤ 9223372036854775807) (nbz' : Bool) (Mz' : Value) (xz' : List Int) (iz' : Int) (rowz' : Row w Mz' xz') (bdz' : -9223372036854775808 ≤ iz' ∧ iz' ≤ 9223372036854775807) (nba : Bool) (Ma : Value) (xa : List Int) (ia : Int) (rowa : Row w Ma xa) (bda : -9223372036854775808 ≤ ia ∧ ia ≤ 9223372036854775807) (nba' : Bool) (Ma' : Value) (xa' : List Int) (ia' : Int) (rowa' : Row w Ma' xa') (bda' : -9223372036854775808 ≤ ia' ∧ ia' ≤ 9223372036854775807) (nbb : Bool) (Mb : Value) (xb : List Int) (ib : Int) (rowb : Row w Mb xb) (bdb : -9223372036854775808 ≤ ib ∧ ib ≤ 9223372036854775807) (nbb' : Bool) (Mb' : Value) (xb' : List Int) (ib' : Int) (rowb' : Row w Mb' xb') (bdb' : -9223372036854775808 ≤ ib' ∧ ib' ≤ 9223372036854775807) (nbe : Bool) (Me : Value) (xe : List Int) (ie : Int) (rowe : Row w Me xe) (bde : -9223372036854775808 ≤ ie ∧ ie ≤ 9223372036854775807) (n : Int) (bn : 0 ≤ n ∧ n ≤ 255) (k : Int) (bk : -9223372036854775808 ≤ k ∧ k ≤ 9223372036854775807) (g0 : (70 : Int) < (xz.length : Int)) :
    Calls Tryz.prog 3 #[.agg #[.bool nbz, Mz, .int .i64 iz, .bool nbz', Mz', .int .i64 iz'], .agg #[.bool nba, Ma, .int .i64 ia, .bool nba', Ma', .int .i64 ia'], .agg #[.bool nbb, Mb, .int .i64 ib, .bool nbb', Mb', .int .i64 ib'], .agg #[.bool nbe, Me, .int .i64 ie], .int .u8 n, .int .i64 k] w (RetE w (.bool true)) := by
  obtain ⟨Az, cz, rfl, hz1, hz2, hz3⟩ := id rowz
  obtain ⟨Az', cz', rfl, hz1', hz2', hz3'⟩ := id rowz'
  clear hz1 hz2 hz3 hz1' hz2' hz3'
  go_enter Tryz.func3, Tryz.ntmps3
  go_wp2_with fail
  refine (headI_any _ (T.ext (((((Ext.refl w).alloc _).alloc _).alloc _).alloc _))).mono ?_
  rintro _ w1 ⟨rfl, f1⟩
  have Bz : Bx w1 (w.heap.size) (.bool nbz) (.slice Az xz.length cz) (.int .i64 iz) (.bool nbz') (.slice Az' xz'.length cz') (.int .i64 iz') := Bx.at (((((Ext.refl _).alloc _).alloc _).alloc _).trans f1) (by simp)
  have Ba : Bx w1 (w.heap.size + 1) (.bool nba) (Ma) (.int .i64 ia) (.bool nba') (Ma') (.int .i64 ia') := Bx.at ((((Ext.refl _).alloc _).alloc _).trans f1) (by simp)
  have Bb : Bx w1 (w.heap.size + 1 + 1) (.bool nbb) (Mb) (.int .i64 ib) (.bool nbb') (Mb') (.int .i64 ib') := Bx.at (((Ext.refl _).alloc _).trans f1) (by simp)
  have Be : Box w1 (w.heap.size + 1 + 1 + 1) (.bool nbe) (Me) (.int .i64 ie) := Box.at ((Ext.refl _).trans f1) (by simp)
  have e1 : Ext w w1 := (((((Ext.refl w).alloc _).alloc _).alloc _).alloc _).trans f1
  replace T := T.ext e1
  replace rowz := rowz.ext e1
  replace rowz' := rowz'.ext e1
  replace rowa := rowa.ext e1
  replace rowa' := rowa'.ext e1
  replace rowb := rowb.ext e1
  replace rowb' := rowb'.ext e1
  replace rowe := rowe.ext e1
  have E1 : Ext w w1 := e1
  clear f1
  obtain ⟨Bz_0, Bz_1, Bz_2, Bz_3, Bz_4, Bz_5⟩ := id Bz
  have Bz_l := World.block_lt_of_cell? _ _ Bz_0
  have y0 : (70 : Int) < (xz.length : Int) := by omega
  have e0d : decide ((70 : Int) < (xz.length : Int)) = true := decide_eq_true y0
  go_wp2
  go_ret
  exact ⟨rfl, E1⟩
set_option maxRecDepth 100000 in
set_option maxHeartbeats 16000000 in
theorem tells_z1 (w : World) (T : Tb w) (nbz : Bool) (Mz : Value) (xz : List Int) (iz : Int) (rowz : Row w Mz xz) (bdz : -9223372036854775808 ≤ iz ∧ iz ≤ 9223372036854775807) (nbz' : Bool) (Mz' : Value) (xz' : List Int) (iz' : Int) (rowz' : Row w Mz' xz') (bdz' : -9223372036854775808 ≤ iz' ∧ iz' ≤ 9223372036854775807) (nba : Bool) (Ma : Value) (xa : List Int) (ia : Int) (rowa : Row w Ma xa) (bda : -9223372036854775808 ≤ ia ∧ ia ≤ 9223372036854775807) (nba' : Bool) (Ma' : Value) (xa' : List Int) (ia' : Int) (rowa' : Row w Ma' xa') (bda' : -9223372036854775808 ≤ ia' ∧ ia' ≤ 9223372036854775807) (nbb : Bool) (Mb : Value) (xb : List Int) (ib : Int) (rowb : Row w Mb xb) (bdb : -9223372036854775808 ≤ ib ∧ ib ≤ 9223372036854775807) (nbb' : Bool) (Mb' : Value) (xb' : List Int) (ib' : Int) (rowb' : Row w Mb' xb') (bdb' : -9223372036854775808 ≤ ib' ∧ ib' ≤ 9223372036854775807) (nbe : Bool) (Me : Value) (xe : List Int) (ie : Int) (rowe : Row w Me xe) (bde : -9223372036854775808 ≤ ie ∧ ie ≤ 9223372036854775807) (n : Int) (bn : 0 ≤ n ∧ n ≤ 255) (k : Int) (bk : -9223372036854775808 ≤ k ∧ k ≤ 9223372036854775807) (g0 : ¬ (70 : Int) < (xz.length : Int)) (g1 : (70 : Int) < (xz'.length : Int)) :
    Calls Tryz.prog 3 #[.agg #[.bool nbz, Mz, .int .i64 iz, .bool nbz', Mz', .int .i64 iz'], .agg #[.bool nba, Ma, .int .i64 ia, .bool nba', Ma', .int .i64 ia'], .agg #[.bool nbb, Mb, .int .i64 ib, .bool nbb', Mb', .int .i64 ib'], .agg #[.bool nbe, Me, .int .i64 ie], .int .u8 n, .int .i64 k] w (RetE w (.bool true)) := by
  obtain ⟨Az, cz, rfl, hz1, hz2, hz3⟩ := id rowz
  obtain ⟨Az', cz', rfl, hz1', hz2', hz3'⟩ := id rowz'
  clear hz1 hz2 hz3 hz1' hz2' hz3'
  go_enter Tryz.func3, Tryz.ntmps3
  go_wp2_with fail
  refine (headI_any _ (T.ext (((((Ext.refl w).alloc _).alloc _).alloc _).alloc _))).mono ?_
  rintro _ w1 ⟨rfl, f1⟩
  have Bz : Bx w1 (w.heap.size) (.bool nbz) (.slice Az xz.length cz) (.int .i64 iz) (.bool nbz') (.slice Az' xz'.length cz') (.int .i64 iz') := Bx.at (((((Ext.refl _).alloc _).alloc _).alloc _).trans f1) (by simp)
  have Ba : Bx w1 (w.heap.size + 1) (.bool nba) (Ma) (.int .i64 ia) (.bool nba') (Ma') (.int .i64 ia') := Bx.at ((((Ext.refl _).alloc _).alloc _).trans f1) (by simp)
  have Bb : Bx w1 (w.heap.size + 1 + 1) (.bool nbb) (Mb) (.int .i64 ib) (.bool nbb') (Mb') (.int .i64 ib') := Bx.at (((Ext.refl _).alloc _).trans f1) (by simp)
  have Be : Box w1 (w.heap.size + 1 + 1 + 1) (.bool nbe) (Me) (.int .i64 ie) := Box.at ((Ext.refl _).trans f1) (by simp)
  have e1 : Ext w w1 := (((((Ext.refl w).alloc _).alloc _).alloc _).alloc _).trans f1
  replace T := T.ext e1
  replace rowz := rowz.ext e1
  replace rowz' := rowz'.ext e1
  replace rowa := rowa.ext e1
  replace rowa' := rowa'.ext e1
  replace rowb := rowb.ext e1
  replace rowb' := rowb'.ext e1
  replace rowe := rowe.ext e1
  have E1 : Ext w w1 := e1
  clear f1
  obtain ⟨Bz_0, Bz_1, Bz_2, Bz_3, Bz_4, Bz_5⟩ := id Bz
  have Bz_l := World.block_lt_of_cell? _ _ Bz_0
  have y0 : ¬ (70 : Int) < (xz.length : Int) := by omega
  have e0d : decide ((70 : Int) < (xz.length : Int)) = false := decide_eq_false y0
  have y1 : (70 : Int) < (xz'.length : Int) := by omega
  have e1d : decide ((70 : Int) < (xz'.length : Int)) = true := decide_eq_true y1
  go_wp2
  go_ret
  exact ⟨rfl, E1⟩
set_option maxRecDepth 100000 in
set_option maxHeartbeats 16000000 in
theorem tells_z2 (w : World) (T : Tb w) (nbz : Bool) (Mz : Value) (xz : List Int) (iz : Int) (rowz : Row w Mz xz) (bdz : -9223372036854775808 ≤ iz ∧ iz ≤ 9223372036854775807) (nbz' : Bool) (Mz' : Value) (xz' : List Int) (iz' : Int) (rowz' : Row w Mz' xz') (bdz' : -9223372036854775808 ≤ iz' ∧ iz' ≤ 9223372036854775807) (nba : Bool) (Ma : Value) (xa : List Int) (ia : Int) (rowa : Row w Ma xa) (bda : -9223372036854775808 ≤ ia ∧ ia ≤ 9223372036854775807) (nba' : Bool) (Ma' : Value) (xa' : List Int) (ia' : Int) (rowa' : Row w Ma' xa') (bda' : -9223372036854775808 ≤ ia' ∧ ia' ≤ 9223372036854775807) (nbb : Bool) (Mb : Value) (xb : List Int) (ib : Int) (rowb : Row w Mb xb) (bdb : -9223372036854775808 ≤ ib ∧ ib ≤ 9223372036854775807) (nbb' : Bool) (Mb' : Value) (xb' : List Int) (ib' : Int) (rowb' : Row w Mb' xb') (bdb' : -9223372036854775808 ≤ ib' ∧ ib' ≤ 9223372036854775807) (nbe : Bool) (Me : Value) (xe : List Int) (ie : Int) (rowe : Row w Me xe) (bde : -9223372036854775808 ≤ ie ∧ ie ≤ 9223372036854775807) (n : Int) (bn : 0 ≤ n ∧ n ≤ 255) (k : Int) (bk : -9223372036854775808 ≤ k ∧ k ≤ 9223372036854775807) (g0 : ¬ (70 : Int) < (xz.length : Int)) (g1 : ¬ (70 : Int) < (xz'.length : Int)) (g2 : (7000 : Int) < iz) :
    Calls Tryz.prog 3 #[.agg #[.bool nbz, Mz, .int .i64 iz, .bool nbz', Mz', .int .i64 iz'], .agg #[.bool nba, Ma, .int .i64 ia, .bool nba', Ma', .int .i64 ia'], .agg #[.bool nbb, Mb, .int .i64 ib, .bool nbb', Mb', .int .i64 ib'], .agg #[.bool nbe, Me, .int .i64 ie], .int .u8 n, .int .i64 k] w (RetE w (.bool true)) := by
  obtain ⟨Az, cz, rfl, hz1, hz2, hz3⟩ := id rowz
  obtain ⟨Az', cz', rfl, hz1', hz2', hz3'⟩ := id rowz'
  clear hz1 hz2 hz3 hz1' hz2' hz3'
  go_enter Tryz.func3, Tryz.ntmps3
  go_wp2_with fail
  refine (headI_any _ (T.ext (((((Ext.refl w).alloc _).alloc _).alloc _).alloc _))).mono ?_
  rintro _ w1 ⟨rfl, f1⟩
  have Bz : Bx w1 (w.heap.size) (.bool nbz) (.slice Az xz.length cz) (.int .i64 iz) (.bool nbz') (.slice Az' xz'.length cz') (.int .i64 iz') := Bx.at (((((Ext.refl _).alloc _).alloc _).alloc _).trans f1) (by simp)
  have Ba : Bx w1 (w.heap.size + 1) (.bool nba) (Ma) (.int .i64 ia) (.bool nba') (Ma') (.int .i64 ia') := Bx.at ((((Ext.refl _).alloc _).alloc _).trans f1) (by simp)
  have Bb : Bx w1 (w.heap.size + 1 + 1) (.bool nbb) (Mb) (.int .i64 ib) (.bool nbb') (Mb') (.int .i64 ib') := Bx.at (((Ext.refl _).alloc _).trans f1) (by simp)
  have Be : Box w1 (w.heap.size + 1 + 1 + 1) (.bool nbe) (Me) (.int .i64 ie) := Box.at ((Ext.refl _).trans f1) (by simp)
  have e1 : Ext w w1 := (((((Ext.refl w).alloc _).alloc _).alloc _).alloc _).trans f1
  replace T := T.ext e1
  replace rowz := rowz.ext e1
  replace rowz' := rowz'.ext e1
  replace rowa := rowa.ext e1
  replace rowa' := rowa'.ext e1
  replace rowb := rowb.ext e1
  replace rowb' := rowb'.ext e1
  replace rowe := rowe.ext e1
  have E1 : Ext w w1 := e1
  clear f1
  obtain ⟨Bz_0, Bz_1, Bz_2, Bz_3, Bz_4, Bz_5⟩ := id Bz
  have Bz_l := World.block_lt_of_cell? _ _ Bz_0
  have y0 : ¬ (70 : Int) < (xz.length : Int) := by omega
  have e0d : decide ((70 : Int) < (xz.length : Int)) = false := decide_eq_false y0
  have y1 : ¬ (70 : Int) < (xz'.length : Int) := by omega
  have e1d : decide ((70 : Int) < (xz'.length : Int)) = false := decide_eq_false y1
  have y2 : (7000 : Int) < iz := by omega
  have e2d : decide ((7000 : Int) < iz) = true := decide_eq_true y2
  go_wp2
  go_ret
  exact ⟨rfl, E1⟩
set_option maxRecDepth 100000 in
set_option maxHeartbeats 16000000 in
theorem tells_z3 (w : World) (T : Tb w) (nbz : Bool) (Mz : Value) (xz : List Int) (iz : Int) (rowz : Row w Mz xz) (bdz : -9223372036854775808 ≤ iz ∧ iz ≤ 9223372036854775807) (nbz' : Bool) (Mz' : Value) (xz' : List Int) (iz' : Int) (rowz' : Row w Mz' xz') (bdz' : -9223372036854775808 ≤ iz' ∧ iz' ≤ 9223372036854775807) (nba : Bool) (Ma : Value) (xa : List Int) (ia : Int) (rowa : Row w Ma xa) (bda : -9223372036854775808 ≤ ia ∧ ia ≤ 9223372036854775807) (nba' : Bool) (Ma' : Value) (xa' : List Int) (ia' : Int) (rowa' : Row w Ma' xa') (bda' : -9223372036854775808 ≤ ia' ∧ ia' ≤ 9223372036854775807) (nbb : Bool) (Mb : Value) (xb : List Int) (ib : Int) (rowb : Row w Mb xb) (bdb : -9223372036854775808 ≤ ib ∧ ib ≤ 9223372036854775807) (nbb' : Bool) (Mb' : Value) (xb' : List Int) (ib' : Int) (rowb' : Row w Mb' xb') (bdb' : -9223372036854775808 ≤ ib' ∧ ib' ≤ 9223372036854775807) (nbe : Bool) (Me : Value) (xe : List Int) (ie : Int) (rowe : Row w Me xe) (bde : -9223372036854775808 ≤ ie ∧ ie ≤ 9223372036854775807) (n : Int) (bn : 0 ≤ n ∧ n ≤ 255) (k : Int) (bk : -9223372036854775808 ≤ k ∧ k ≤ 9223372036854775807) (g0 : ¬ (70 : Int) < (xz.length : Int)) (g1 : ¬ (70 : Int) < (xz'.length : Int)) (g2 : ¬ (7000 : Int) < iz) (g3 : iz < (-7000 : Int)) :
    Calls Tryz.prog 3 #[.agg #[.bool nbz, Mz, .int .i64 iz, .bool nbz', Mz', .int .i64 iz'], .agg #[.bool nba, Ma, .int .i64 ia, .bool nba', Ma', .int .i64 ia'], .agg #[.bool nbb, Mb, .int .i64 ib, .bool nbb', Mb', .int .i64 ib'], .agg #[.bool nbe, Me, .int .i64 ie], .int .u8 n, .int .i64 k] w (RetE w (.bool true)) := by
  obtain ⟨Az, cz, rfl, hz1, hz2, hz3⟩ := id rowz
  obtain ⟨Az', cz', rfl, hz1', hz2', hz3'⟩ := id rowz'
  clear hz1 hz2 hz3 hz1' hz2' hz3'
  go_enter Tryz.func3, Tryz.ntmps3
  go_wp2_with fail
  refine (headI_any _ (T.ext (((((Ext.refl w).alloc _).alloc _).alloc _).alloc _))).mono ?_
  rintro _ w1 ⟨rfl, f1⟩
  have Bz : Bx w1 (w.heap.size) (.bool nbz) (.slice Az xz.length cz) (.int .i64 iz) (.bool nbz') (.slice Az' xz'.length cz') (.int .i64 iz') := Bx.at (((((Ext.refl _).alloc _).alloc _).alloc _).trans f1) (by simp)
  have Ba : Bx w1 (w.heap.size + 1) (.bool nba) (Ma) (.int .i64 ia) (.bool nba') (Ma') (.int .i64 ia') := Bx.at ((((Ext.refl _).alloc _).alloc _).trans f1) (by simp)
  have Bb : Bx w1 (w.heap.size + 1 + 1) (.bool nbb) (Mb) (.int .i64 ib) (.bool nbb') (Mb') (.int .i64 ib') := Bx.at (((Ext.refl _).alloc _).trans f1) (by simp)
  have Be : Box w1 (w.heap.size + 1 + 1 + 1) (.bool nbe) (Me) (.int .i64 ie) := Box.at ((Ext.refl _).trans f1) (by simp)
  have e1 : Ext w w1 := (((((Ext.refl w).alloc _).alloc _).alloc _).alloc _).trans f1
  replace T := T.ext e1
  replace rowz := rowz.ext e1
  replace rowz' := rowz'.ext e1
  replace rowa := rowa.ext e1
  replace rowa' := rowa'.ext e1
  replace rowb := rowb.ext e1
  replace rowb' := rowb'.ext e1
  replace rowe := rowe.ext e1
  have E1 : Ext w w1 := e1
  clear f1
  obtain ⟨Bz_0, Bz_1, Bz_2, Bz_3, Bz_4, Bz_5⟩ := id Bz
  have Bz_l := World.block_lt_of_cell? _ _ Bz_0
  have y0 : ¬ (70 : Int) < (xz.length : Int) := by omega
  have e0d : decide ((70 : Int) < (xz.length : Int)) = false := decide_eq_false y0
  have y1 : ¬ (70 : Int) < (xz'.length : Int) := by omega
  have e1d : decide ((70 : Int) < (xz'.length : Int)) = false := decide_eq_false y1
  have y2 : ¬ (7000 : Int) < iz := by omega
  have e2d : decide ((7000 : Int) < iz) = false := decide_eq_false y2
  have y3 : iz < (-7000 : Int) := by omega
  have e3d : decide (iz < (-7000 : Int)) = true := decide_eq_true y3
  go_wp2
  go_ret
  exact ⟨rfl, E1⟩
set_option maxRecDepth 100000 in
set_option maxHeartbeats 16000000 in
theorem tells_z4 (w : World) (T : Tb w) (nbz : Bool) (Mz : Value) (xz : List Int) (iz : Int) (rowz : Row w Mz xz) (bdz : -9223372036854775808 ≤ iz ∧ iz ≤ 9223372036854775807) (nbz' : Bool) (Mz' : Value) (xz' : List Int) (iz' : Int) (rowz' : Row w Mz' xz') (bdz' : -9223372036854775808 ≤ iz' ∧ iz' ≤ 9223372036854775807) (nba : Bool) (Ma : Value) (xa : List Int) (ia : Int) (rowa : Row w Ma xa) (bda : -9223372036854775808 ≤ ia ∧ ia ≤ 9223372036854775807) (nba' : Bool) (Ma' : Value) (xa' : List Int) (ia' : Int) (rowa' : Row w Ma' xa') (bda' : -9223372036854775808 ≤ ia' ∧ ia' ≤ 9223372036854775807) (nbb : Bool) (Mb : Value) (xb : List Int) (ib : Int) (rowb : Row w Mb xb) (bdb : -9223372036854775808 ≤ ib ∧ ib ≤ 9223372036854775807) (nbb' : Bool) (Mb' : Value) (xb' : List Int) (ib' : Int) (rowb' : Row w Mb' xb') (bdb' : -9223372036854775808 ≤ ib' ∧ ib' ≤ 9223372036854775807) (nbe : Bool) (Me : Value) (xe : List Int) (ie : Int) (rowe : Row w Me xe) (bde : -9223372036854775808 ≤ ie ∧ ie ≤ 9223372036854775807) (n : Int) (bn : 0 ≤ n ∧ n ≤ 255) (k : Int) (bk : -9223372036854775808 ≤ k ∧ k ≤ 9223372036854775807) (g0 : ¬ (70 : Int) < (xz.length : Int)) (g1 : ¬ (70 : Int) < (xz'.length : Int)) (g2 : ¬ (7000 : Int) < iz) (g3 : ¬ iz < (-7000 : Int)) (g4 : (7000 : Int) < iz') :
    Calls Tryz.prog 3 #[.agg #[.bool nbz, Mz, .int .i64 iz, .bool nbz', Mz', .int .i64 iz'], .agg #[.bool nba, Ma, .int .i64 ia, .bool nba', Ma', .int .i64 ia'], .agg #[.bool nbb, Mb, .int .i64 ib, .bool nbb', Mb', .int .i64 ib'], .agg #[.bool nbe, Me, .int .i64 ie], .int .u8 n, .int .i64 k] w (RetE w (.bool true)) := by
  obtain ⟨Az, cz, rfl, hz1, hz2, hz3⟩ := id rowz
  obtain ⟨Az', cz', rfl, hz1', hz2', hz3'⟩ := id rowz'
  clear hz1 hz2 hz3 hz1' hz2' hz3'
  go_enter Tryz.func3, Tryz.ntmps3
  go_wp2_with fail
  refine (headI_any _ (T.ext (((((Ext.refl w).alloc _).alloc _).alloc _).alloc _))).mono ?_
  rintro _ w1 ⟨rfl, f1⟩
  have Bz : Bx w1 (w.heap.size) (.bool nbz) (.slice Az xz.length cz) (.int .i64 iz) (.bool nbz') (.slice Az' xz'.length cz') (.int .i64 iz') := Bx.at (((((Ext.refl _).alloc _).alloc _).alloc _).trans f1) (by simp)
  have Ba : Bx w1 (w.heap.size + 1) (.bool nba) (Ma) (.int .i64 ia) (.bool nba') (Ma') (.int .i64 ia') := Bx.at ((((Ext.refl _).alloc _).alloc _).trans f1) (by simp)
  have Bb : Bx w1 (w.heap.size + 1 + 1) (.bool nbb) (Mb) (.int .i64 ib) (.bool nbb') (Mb') (.int .i64 ib') := Bx.at (((Ext.refl _).alloc _).trans f1) (by simp)
  have Be : Box w1 (w.heap.size + 1 + 1 + 1) (.bool nbe) (Me) (.int .i64 ie) := Box.at ((Ext.refl _).trans f1) (by simp)
  have e1 : Ext w w1 := (((((Ext.refl w).alloc _).alloc _).alloc _).alloc _).trans f1
  replace T := T.ext e1
  replace rowz := rowz.ext e1
  replace rowz' := rowz'.ext e1
  replace rowa := rowa.ext e1
  replace rowa' := rowa'.ext e1
  replace rowb := rowb.ext e1
  replace rowb' := rowb'.ext e1
  replace rowe := rowe.ext e1
  have E1 : Ext w w1 := e1
  clear f1
  obtain ⟨Bz_0, Bz_1, Bz_2, Bz_3, Bz_4, Bz_5⟩ := id Bz
  have Bz_l := World.block_lt_of_cell? _ _ Bz_0
  have y0 : ¬ (70 : Int) < (xz.length : Int) := by omega
  have e0d : decide ((70 : Int) < (xz.length : Int)) = false := decide_eq_false y0
  have y1 : ¬ (70 : Int) < (xz'.length : Int) := by omega
  have e1d : decide ((70 : Int) < (xz'.length : Int)) = false := decide_eq_false y1
  have y2 : ¬ (7000 : Int) < iz := by omega
  have e2d : decide ((7000 : Int) < iz) = false := decide_eq_false y2
  have y3 : ¬ iz < (-7000 : Int) := by omega
  have e3d : decide (iz < (-7000 : Int)) = false := decide_eq_false y3
  have y4 : (7000 : Int) < iz' := by omega
  have e4d : decide ((7000 : Int) < iz') = true := decide_eq_true y4
  go_wp2
  go_ret
  exact ⟨rfl, E1⟩
set_option maxRecDepth 100000 in
set_option maxHeartbeats 16000000 in
theorem tells_z5 (w : World) (T : Tb w) (nbz : Bool) (Mz : Value) (xz : List Int) (iz : Int) (rowz : Row w Mz xz) (bdz : -9223372036854775808 ≤ iz ∧ iz ≤ 9223372036854775807) (nbz' : Bool) (Mz' : Value) (xz' : List Int) (iz' : Int) (rowz' : Row w Mz' xz') (bdz' : -9223372036854775808 ≤ iz' ∧ iz' ≤ 9223372036854775807) (nba : Bool) (Ma : Value) (xa : List Int) (ia : Int) (rowa : Row w Ma xa) (bda : -9223372036854775808 ≤ ia ∧ ia ≤ 9223372036854775807) (nba' : Bool) (Ma' : Value) (xa' : List Int) (ia' : Int) (rowa' : Row w Ma' xa') (bda' : -9223372036854775808 ≤ ia' ∧ ia' ≤ 9223372036854775807) (nbb : Bool) (Mb : Value) (xb : List Int) (ib : Int) (rowb : Row w Mb xb) (bdb : -9223372036854775808 ≤ ib ∧ ib ≤ 9223372036854775807) (nbb' : Bool) (Mb' : Value) (xb' : List Int) (ib' : Int) (rowb' : Row w Mb' xb') (bdb' : -9223372036854775808 ≤ ib' ∧ ib' ≤ 9223372036854775807) (nbe : Bool) (Me : Value) (xe : List Int) (ie : Int) (rowe : Row w Me xe) (bde : -9223372036854775808 ≤ ie ∧ ie ≤ 9223372036854775807) (n : Int) (bn : 0 ≤ n ∧ n ≤ 255) (k : Int) (bk : -9223372036854775808 ≤ k ∧ k ≤ 9223372036854775807) (g0 : ¬ (70 : Int) < (xz.length : Int)) (g1 : ¬ (70 : Int) < (xz'.length : Int)) (g2 : ¬ (7000 : Int) < iz) (g3 : ¬ iz < (-7000 : Int)) (g4 : ¬ (7000 : Int) < iz') (g5 : iz' < (-7000 : Int)) :
    Calls Tryz.prog 3 #[.agg #[.bool nbz, Mz, .int .i64 iz, .bool nbz', Mz', .int .i64 iz'], .agg #[.bool nba, Ma, .int .i64 ia, .bool nba', Ma', .int .i64 ia'], .agg #[.bool nbb, Mb, .int .i64 ib, .bool nbb', Mb', .int .i64 ib'], .agg #[.bool nbe, Me, .int .i64 ie], .int .u8 n, .int .i64 k] w (RetE w (.bool true)) := by
  obtain ⟨Az, cz, rfl, hz1, hz2, hz3⟩ := id rowz
  obtain ⟨Az', cz', rfl, hz1', hz2', hz3'⟩ := id rowz'
  clear hz1 hz2 hz3 hz1' hz2' hz3'
  go_enter Tryz.func3, Tryz.ntmps3
  go_wp2_with fail
  refine (headI_any _ (T.ext (((((Ext.refl w).alloc _).alloc _).alloc _).alloc _))).mono ?_
  rintro _ w1 ⟨rfl, f1⟩
  have Bz : Bx w1 (w.heap.size) (.bool nbz) (.slice Az xz.length cz) (.int .i64 iz) (.bool nbz') (.slice Az' xz'.length cz') (.int .i64 iz') := Bx.at (((((Ext.refl _).alloc _).alloc _).alloc _).trans f1) (by simp)
  have Ba : Bx w1 (w.heap.size + 1) (.bool nba) (Ma) (.int .i64 ia) (.bool nba') (Ma') (.int .i64 ia') := Bx.at ((((Ext.refl _).alloc _).alloc _).trans f1) (by simp)
  have Bb : Bx w1 (w.heap.size + 1 + 1) (.bool nbb) (Mb) (.int .i64 ib) (.bool nbb') (Mb') (.int .i64 ib') := Bx.at (((Ext.refl _).alloc _).trans f1) (by simp)
  have Be : Box w1 (w.heap.size + 1 + 1 + 1) (.bool nbe) (Me) (.int .i64 ie) := Box.at ((Ext.refl _).trans f1) (by simp)
  have e1 : Ext w w1 := (((((Ext.refl w).alloc _).alloc _).alloc _).alloc _).trans f1
  replace T := T.ext e1
  replace rowz := rowz.ext e1
  replace rowz' := rowz'.ext e1
  replace rowa := rowa.ext e1
  replace rowa' := rowa'.ext e1
  replace rowb := rowb.ext e1
  replace rowb' := rowb'.ext e1
  replace rowe := rowe.ext e1
  have E1 : Ext w w1 := e1
  clear f1
  obtain ⟨Bz_0, Bz_1, Bz_2, Bz_3, Bz_4, Bz_5⟩ := id Bz
  have Bz_l := World.block_lt_of_cell? _ _ Bz_0
  have y0 : ¬ (70 : Int) < (xz.length : Int) := by omega
  have e0d : decide ((70 : Int) < (xz.length : Int)) = false := decide_eq_false y0
  have y1 : ¬ (70 : Int) < (xz'.length : Int) := by omega
  have e1d : decide ((70 : Int) < (xz'.length : Int)) = false := decide_eq_false y1
  have y2 : ¬ (7000 : Int) < iz := by omega
  have e2d : decide ((7000 : Int) < iz) = false := decide_eq_false y2
  have y3 : ¬ iz < (-7000 : Int) := by omega
  have e3d : decide (iz < (-7000 : Int)) = false := decide_eq_false y3
  have y4 : ¬ (7000 : Int) < iz' := by omega
  have e4d : decide ((7000 : Int) < iz') = false := decide_eq_false y4
  have y5 : iz' < (-7000 : Int) := by omega
  have e5d : decide (iz' < (-7000 : Int)) = true := decide_eq_true y5
  go_wp2
  go_ret
  exact ⟨rfl, E1⟩
set_option maxRecDepth 100000 in
set_option maxHeartbeats 16000000 in
theorem tells_ab (w : World) (T : Tb w) (nbz : Bool) (Mz : Value) (xz : List Int) (iz : Int) (rowz : Row w Mz xz) (bdz : -9223372036854775808 ≤ iz ∧ iz ≤ 9223372036854775807) (nbz' : Bool) (Mz' : Value) (xz' : List Int) (iz' : Int) (rowz' : Row w Mz' xz') (bdz' : -9223372036854775808 ≤ iz' ∧ iz' ≤ 9223372036854775807) (nba : Bool) (Ma : Value) (xa : List Int) (ia : Int) (rowa : Row w Ma xa) (bda : -9223372036854775808 ≤ ia ∧ ia ≤ 9223372036854775807) (nba' : Bool) (Ma' : Value) (xa' : List Int) (ia' : Int) (rowa' : Row w Ma' xa') (bda' : -9223372036854775808 ≤ ia' ∧ ia' ≤ 9223372036854775807) (nbb : Bool) (Mb : Value) (xb : List Int) (ib : Int) (rowb : Row w Mb xb) (bdb : -9223372036854775808 ≤ ib ∧ ib ≤ 9223372036854775807) (nbb' : Bool) (Mb' : Value) (xb' : List Int) (ib' : Int) (rowb' : Row w Mb' xb') (bdb' : -9223372036854775808 ≤ ib' ∧ ib' ≤ 9223372036854775807) (nbe : Bool) (Me : Value) (xe : List Int) (ie : Int) (rowe : Row w Me xe) (bde : -9223372036854775808 ≤ ie ∧ ie ≤ 9223372036854775807) (n : Int) (bn : 0 ≤ n ∧ n ≤ 255) (k : Int) (bk : -9223372036854775808 ≤ k ∧ k ≤ 9223372036854775807) (g0 : ¬ (70 : Int) < (xz.length : Int)) (g1 : ¬ (70 : Int) < (xz'.length : Int)) (g2 : ¬ (7000 : Int) < iz) (g3 : ¬ iz < (-7000 : Int)) (g4 : ¬ (7000 : Int) < iz') (g5 : ¬ iz' < (-7000 : Int)) (hg : goodIs 2 (pk nba nbb nbb) (pk xa xb xb) (pk ia ib ib) (pk nba' nbb' nbb') (pk xa' xb' xb') (pk ia' ib' ib') = false) :
    Calls Tryz.prog 3 #[.agg #[.bool nbz, Mz, .int .i64 iz, .bool nbz', Mz', .int .i64 iz'], .agg #[.bool nba, Ma, .int .i64 ia, .bool nba', Ma', .int .i64 ia'], .agg #[.bool nbb, Mb, .int .i64 ib, .bool nbb', Mb', .int .i64 ib'], .agg #[.bool nbe, Me, .int .i64 ie], .int .u8 n, .int .i64 k] w (RetE w (.bool true)) := by
  obtain ⟨Az, cz, rfl, hz1, hz2, hz3⟩ := id rowz
  obtain ⟨Az', cz', rfl, hz1', hz2', hz3'⟩ := id rowz'
  clear hz1 hz2 hz3 hz1' hz2' hz3'
  go_enter Tryz.func3, Tryz.ntmps3
  go_wp2_with fail
  refine (headI_any _ (T.ext (((((Ext.refl w).alloc _).alloc _).alloc _).alloc _))).mono ?_
  rintro _ w1 ⟨rfl, f1⟩
  have Bz : Bx w1 (w.heap.size) (.bool nbz) (.slice Az xz.length cz) (.int .i64 iz) (.bool nbz') (.slice Az' xz'.length cz') (.int .i64 iz') := Bx.at (((((Ext.refl _).alloc _).alloc _).alloc _).trans f1) (by simp)
  have Ba : Bx w1 (w.heap.size + 1) (.bool nba) (Ma) (.int .i64 ia) (.bool nba') (Ma') (.int .i64 ia') := Bx.at ((((Ext.refl _).alloc _).alloc _).trans f1) (by simp)
  have Bb : Bx w1 (w.heap.size + 1 + 1) (.bool nbb) (Mb) (.int .i64 ib) (.bool nbb') (Mb') (.int .i64 ib') := Bx.at (((Ext.refl _).alloc _).trans f1) (by simp)
  have Be : Box w1 (w.heap.size + 1 + 1 + 1) (.bool nbe) (Me) (.int .i64 ie) := Box.at ((Ext.refl _).trans f1) (by simp)
  have e1 : Ext w w1 := (((((Ext.refl w).alloc _).alloc _).alloc _).alloc _).trans f1
  replace T := T.ext e1
  replace rowz := rowz.ext e1
  replace rowz' := rowz'.ext e1
  replace rowa := rowa.ext e1
  replace rowa' := rowa'.ext e1
  replace rowb := rowb.ext e1
  replace rowb' := rowb'.ext e1
  replace rowe := rowe.ext e1
  have E1 : Ext w w1 := e1
  clear f1
  obtain ⟨Bz_0, Bz_1, Bz_2, Bz_3, Bz_4, Bz_5⟩ := id Bz
  have Bz_l := World.block_lt_of_cell? _ _ Bz_0
  have y0 : ¬ (70 : Int) < (xz.length : Int) := by omega
  have e0d : decide ((70 : Int) < (xz.length : Int)) = false := decide_eq_false y0
  have y1 : ¬ (70 : Int) < (xz'.length : Int) := by omega
  have e1d : decide ((70 : Int) < (xz'.length : Int)) = false := decide_eq_false y1
  have y2 : ¬ (7000 : Int) < iz := by omega
  have e2d : decide ((7000 : Int) < iz) = false := decide_eq_false y2
  have y3 : ¬ iz < (-7000 : Int) := by omega
  have e3d : decide (iz < (-7000 : Int)) = false := decide_eq_false y3
  have y4 : ¬ (7000 : Int) < iz' := by omega
  have e4d : decide ((7000 : Int) < iz') = false := decide_eq_false y4
  have y5 : ¬ iz' < (-7000 : Int) := by omega
  have e5d : decide (iz' < (-7000 : Int)) = false := decide_eq_false y5
  obtain ⟨bz_, hr1, hr2⟩ := right_both _ nbz Az xz.length cz xz iz nbz' Az' xz'.length cz' xz' iz' rowz rowz' bdz bdz'
  have HR1 := Lib.hid hr1
  have HR2 := Lib.hid hr2
  have hne : (bz_ != bz_) = false := by simp
  clear hr1 hr2 bdz bdz'
  clear rowz rowz'
  go_wp2
  refine wp_region_held_drew (S := (fun w' => (w'.cell? ⟨w.heap.size, 0, none⟩ = some (.bool nbz) ∧ w'.cell? ⟨w.heap.size, 1, none⟩ = some (.slice Az xz.length cz) ∧ w'.cell? ⟨w.heap.size, 2, none⟩ = some (.int .i64 iz) ∧ w'.cell? ⟨w.heap.size, 3, none⟩ = some (.bool nbz') ∧ w'.cell? ⟨w.heap.size, 4, none⟩ = some (.slice Az' xz'.length cz') ∧ w'.cell? ⟨w.heap.size, 5, none⟩ = some (.int .i64 iz')))) (by as_aux_lemma => kernel_rfl) (bx6 (Bz.ext (Ext.refl w1).drew)) (fun hHeld => ?_)
  refine wpAnyH_take (i := 0) (v := ?_) rfl (by as_aux_lemma => kernel_rfl) (by as_aux_lemma => kernel_rfl) (by as_aux_lemma => kernel_rfl) (fun _ _ _ h => h) (Or.inl ⟨by rfl, ?_⟩) (by assumption) ?_
  rotate_left
  · (intro w hSw; (try dsimp only at hSw); go_simp); (try with_reducible rfl)
  simp only [List.getElem_toArray, List.getElem_cons_zero, Act.put, List.setIfInBounds_toArray, List.set_cons_zero, List.set_cons_succ]
  refine wpAnyH_take (i := 2) (v := ?_) rfl (by as_aux_lemma => kernel_rfl) (by as_aux_lemma => kernel_rfl) (by as_aux_lemma => kernel_rfl) (fun _ _ _ h => h) (Or.inl ⟨by rfl, ?_⟩) (by assumption) ?_
  rotate_left
  · (intro w hSw; (try dsimp only at hSw); go_simp); (try with_reducible rfl)
  simp only [List.getElem_toArray, List.getElem_cons_zero, List.getElem_cons_succ, Act.put, List.setIfInBounds_toArray, List.set_cons_zero, List.set_cons_succ]
  refine wpAnyH_ready (rs := [1]) (by as_aux_lemma => kernel_rfl) (by simp) ?_
  refine AllReadyH.cons rfl (fun K hK => ?_) AllReadyH.nil
  go_simp
  refine (HR1.out _ (Ext.refl w1).drew).mono ?_
  rintro _ u1 ⟨rfl, eu1⟩
  have F1 : Ext w1 u1 := (Ext.refl w1).drew.trans eu1
  refine hK.out _ _ (bx6 (Bz.ext F1)) (fun hHeld => ?_)
  clear hK K eu1
  refine wpAnyH_ready (rs := [3]) (by as_aux_lemma => kernel_rfl) (by simp) ?_
  refine AllReadyH.cons rfl (fun K hK => ?_) AllReadyH.nil
  go_simp
  refine (HR2.out _ F1).mono ?_
  rintro _ u2 ⟨rfl, eu2⟩
  have F2 : Ext w1 u2 := F1.trans eu2
  refine hK.out _ _ (bx6 (Bz.ext F2)) (fun hHeld => ?_)
  clear hK K eu2 F1
  refine wpAnyH_take (i := 4) (v := ?_) rfl (by as_aux_lemma => kernel_rfl) (by as_aux_lemma => kernel_rfl) (by as_aux_lemma => kernel_rfl) (fun _ _ _ h => h) (Or.inl ⟨by rfl, ?_⟩) (by assumption) ?_
  rotate_left
  · (intro w hSw; (try dsimp only at hSw); go_simp); (try with_reducible rfl)
  simp only [List.getElem_toArray, List.getElem_cons_zero, List.getElem_cons_succ, Act.put, List.setIfInBounds_toArray, List.set_cons_zero, List.set_cons_succ]
  refine wpAnyH_done (by as_aux_lemma => kernel_rfl) ?_ _
  replace T := T.ext F2
  replace rowa := rowa.ext F2
  replace rowa' := rowa'.ext F2
  replace rowb := rowb.ext F2
  replace rowb' := rowb'.ext F2
  replace rowe := rowe.ext F2
  replace Bz := Bz.ext F2
  replace Ba := Ba.ext F2
  replace Bb := Bb.ext F2
  replace Be := Be.ext F2
  have E2x := E1.trans F2
  clear F2 E1 Bz_0 Bz_1 Bz_2 Bz_3 Bz_4 Bz_5 Bz_l hHeld
  clear HR1 HR2 hne Bz y0 e0d y1 e1d y2 e2d y3 e3d y4 e4d y5 e5d g0 g1 g2 g3 g4 g5
  obtain ⟨Ba_0, Ba_1, Ba_2, Ba_3, Ba_4, Ba_5⟩ := id Ba
  have Ba_l := World.block_lt_of_cell? _ _ Ba_0
  obtain ⟨Bb_0, Bb_1, Bb_2, Bb_3, Bb_4, Bb_5⟩ := id Bb
  have Bb_l := World.block_lt_of_cell? _ _ Bb_0
  have HG := Lib.hid (good5_any _ _ 2 2 _ _ _ _ _ _ _ _ (by omega) (manyI2 u2 26 nba nbb Ma Mb xa xb ia ib rowa rowb bda bdb nba' nbb' Ma' Mb' xa' xb' ia' ib' rowa' rowb' bda' bdb'))
  rw [hg] at HG
  clear hg
  go_wp2_with fail
  refine (HG.out).mono ?_
  rintro _ w3 ⟨rfl, f3⟩
  clear Ba_0 Ba_1 Ba_2 Ba_3 Ba_4 Ba_5 Ba_l Bb_0 Bb_1 Bb_2 Bb_3 Bb_4 Bb_5 Bb_l
  have e3 : Ext u2 w3 := ((Ext.refl u2).alloc _).trans f3
  replace T := T.ext e3
  replace rowa := rowa.ext e3
  replace rowa' := rowa'.ext e3
  replace rowb := rowb.ext e3
  replace rowb' := rowb'.ext e3
  replace rowe := rowe.ext e3
  replace Ba := Ba.ext e3
  replace Bb := Bb.ext e3
  replace Be := Be.ext e3
  have E3 : Ext w w3 := E2x.trans e3
  clear e3 f3 E2x
  clear HG
  go_wp2
  go_ret
  exact ⟨rfl, E3⟩
set_option maxRecDepth 100000 in
set_option maxHeartbeats 16000000 in
theorem tells_d (w : World) (T : Tb w) (nbz : Bool) (Mz : Value) (xz : List Int) (iz : Int) (rowz : Row w Mz xz) (bdz : -9223372036854775808 ≤ iz ∧ iz ≤ 9223372036854775807) (nbz' : Bool) (Mz' : Value) (xz' : List Int) (iz' : Int) (rowz' : Row w Mz' xz') (bdz' : -9223372036854775808 ≤ iz' ∧ iz' ≤ 9223372036854775807) (nba : Bool) (Ma : Value) (xa : List Int) (ia : Int) (rowa : Row w Ma xa) (bda : -9223372036854775808 ≤ ia ∧ ia ≤ 9223372036854775807) (nba' : Bool) (Ma' : Value) (xa' : List Int) (ia' : Int) (rowa' : Row w Ma' xa') (bda' : -9223372036854775808 ≤ ia' ∧ ia' ≤ 9223372036854775807) (nbb : Bool) (Mb : Value) (xb : List Int) (ib : Int) (rowb : Row w Mb xb) (bdb : -9223372036854775808 ≤ ib ∧ ib ≤ 9223372036854775807) (nbb' : Bool) (Mb' : Value) (xb' : List Int) (ib' : Int) (rowb' : Row w Mb' xb') (bdb' : -9223372036854775808 ≤ ib' ∧ ib' ≤ 9223372036854775807) (nbe : Bool) (Me : Value) (xe : List Int) (ie : Int) (rowe : Row w Me xe) (bde : -9223372036854775808 ≤ ie ∧ ie ≤ 9223372036854775807) (n : Int) (bn : 0 ≤ n ∧ n ≤ 255) (k : Int) (bk : -9223372036854775808 ≤ k ∧ k ≤ 9223372036854775807) (g0 : ¬ (70 : Int) < (xz.length : Int)) (g1 : ¬ (70 : Int) < (xz'.length : Int)) (g2 : ¬ (7000 : Int) < iz) (g3 : ¬ iz < (-7000 : Int)) (g4 : ¬ (7000 : Int) < iz') (g5 : ¬ iz' < (-7000 : Int)) (hg : goodIs 2 (pk nba nbb nbb) (pk xa xb xb) (pk ia ib ib) (pk nba' nbb' nbb') (pk xa' xb' xb') (pk ia' ib' ib') = true) (hd : goodAll 1 (pk nbe nbe nbe) (pk xe xe xe) (pk ie ie ie) = false) :
    Calls Tryz.prog 3 #[.agg #[.bool nbz, Mz, .int .i64 iz, .bool nbz', Mz', .int .i64 iz'], .agg #[.bool nba, Ma, .int .i64 ia, .bool nba', Ma', .int .i64 ia'], .agg #[.bool nbb, Mb, .int .i64 ib, .bool nbb', Mb', .int .i64 ib'], .agg #[.bool nbe, Me, .int .i64 ie], .int .u8 n, .int .i64 k] w (RetE w (.bool true)) := by
  obtain ⟨Az, cz, rfl, hz1, hz2, hz3⟩ := id rowz
  obtain ⟨Az', cz', rfl, hz1', hz2', hz3'⟩ := id rowz'
  clear hz1 hz2 hz3 hz1' hz2' hz3'
  go_enter Tryz.func3, Tryz.ntmps3
  go_wp2_with fail
  refine (headI_any _ (T.ext (((((Ext.refl w).alloc _).alloc _).alloc _).alloc _))).mono ?_
  rintro _ w1 ⟨rfl, f1⟩
  have Bz : Bx w1 (w.heap.size) (.bool nbz) (.slice Az xz.length cz) (.int .i64 iz) (.bool nbz') (.slice Az' xz'.length cz') (.int .i64 iz') := Bx.at (((((Ext.refl _).alloc _).alloc _).alloc _).trans f1) (by simp)
  have Ba : Bx w1 (w.heap.size + 1) (.bool nba) (Ma) (.int .i64 ia) (.bool nba') (Ma') (.int .i64 ia') := Bx.at ((((Ext.refl _).alloc _).alloc _).trans f1) (by simp)
  have Bb : Bx w1 (w.heap.size + 1 + 1) (.bool nbb) (Mb) (.int .i64 ib) (.bool nbb') (Mb') (.int .i64 ib') := Bx.at (((Ext.refl _).alloc _).trans f1) (by simp)
  have Be : Box w1 (w.heap.size + 1 + 1 + 1) (.bool nbe) (Me) (.int .i64 ie) := Box.at ((Ext.refl _).trans f1) (by simp)
  have e1 : Ext w w1 := (((((Ext.refl w).alloc _).alloc _).alloc _).alloc _).trans f1
  replace T := T.ext e1
  replace rowz := rowz.ext e1
  replace rowz' := rowz'.ext e1
  replace rowa := rowa.ext e1
  replace rowa' := rowa'.ext e1
  replace rowb := rowb.ext e1
  replace rowb' := rowb'.ext e1
  replace rowe := rowe.ext e1
  have E1 : Ext w w1 := e1
  clear f1
  obtain ⟨Bz_0, Bz_1, Bz_2, Bz_3, Bz_4, Bz_5⟩ := id Bz
  have Bz_l := World.block_lt_of_cell? _ _ Bz_0
  have y0 : ¬ (70 : Int) < (xz.length : Int) := by omega
  have e0d : decide ((70 : Int) < (xz.length : Int)) = false := decide_eq_false y0
  have y1 : ¬ (70 : Int) < (xz'.length : Int) := by omega
  have e1d : decide ((70 : Int) < (xz'.length : Int)) = false := decide_eq_false y1
  have y2 : ¬ (7000 : Int) < iz := by omega
  have e2d : decide ((7000 : Int) < iz) = false := decide_eq_false y2
  have y3 : ¬ iz < (-7000 : Int) := by omega
  have e3d : decide (iz < (-7000 : Int)) = false := decide_eq_false y3
  have y4 : ¬ (7000 : Int) < iz' := by omega
  have e4d : decide ((7000 : Int) < iz') = false := decide_eq_false y4
  have y5 : ¬ iz' < (-7000 : Int) := by omega
  have e5d : decide (iz' < (-7000 : Int)) = false := decide_eq_false y5
  obtain ⟨bz_, hr1, hr2⟩ := right_both _ nbz Az xz.length cz xz iz nbz' Az' xz'.length cz' xz' iz' rowz rowz' bdz bdz'
  have HR1 := Lib.hid hr1
  have HR2 := Lib.hid hr2
  have hne : (bz_ != bz_) = false := by simp
  clear hr1 hr2 bdz bdz'
  clear rowz rowz'
  go_wp2
  refine wp_region_held_drew (S := (fun w' => (w'.cell? ⟨w.heap.size, 0, none⟩ = some (.bool nbz) ∧ w'.cell? ⟨w.heap.size, 1, none⟩ = some (.slice Az xz.length cz) ∧ w'.cell? ⟨w.heap.size, 2, none⟩ = some (.int .i64 iz) ∧ w'.cell? ⟨w.heap.size, 3, none⟩ = some (.bool nbz') ∧ w'.cell? ⟨w.heap.size, 4, none⟩ = some (.slice Az' xz'.length cz') ∧ w'.cell? ⟨w.heap.size, 5, none⟩ = some (.int .i64 iz')))) (by as_aux_lemma => kernel_rfl) (bx6 (Bz.ext (Ext.refl w1).drew)) (fun hHeld => ?_)
  refine wpAnyH_take (i := 0) (v := ?_) rfl (by as_aux_lemma => kernel_rfl) (by as_aux_lemma => kernel_rfl) (by as_aux_lemma => kernel_rfl) (fun _ _ _ h => h) (Or.inl ⟨by rfl, ?_⟩) (by assumption) ?_
  rotate_left
  · (intro w hSw; (try dsimp only at hSw); go_simp); (try with_reducible rfl)
  simp only [List.getElem_toArray, List.getElem_cons_zero, Act.put, List.setIfInBounds_toArray, List.set_cons_zero, List.set_cons_succ]
  refine wpAnyH_take (i := 2) (v := ?_) rfl (by as_aux_lemma => kernel_rfl) (by as_aux_lemma => kernel_rfl) (by as_aux_lemma => kernel_rfl) (fun _ _ _ h => h) (Or.inl ⟨by rfl, ?_⟩) (by assumption) ?_
  rotate_left
  · (intro w hSw; (try dsimp only at hSw); go_simp); (try with_reducible rfl)
  simp only [List.getElem_toArray, List.getElem_cons_zero, List.getElem_cons_succ, Act.put, List.setIfInBounds_toArray, List.set_cons_zero, List.set_cons_succ]
  refine wpAnyH_ready (rs := [1]) (by as_aux_lemma => kernel_rfl) (by simp) ?_
  refine AllReadyH.cons rfl (fun K hK => ?_) AllReadyH.nil
  go_simp
  refine (HR1.out _ (Ext.refl w1).drew).mono ?_
  rintro _ u1 ⟨rfl, eu1⟩
  have F1 : Ext w1 u1 := (Ext.refl w1).drew.trans eu1
  refine hK.out _ _ (bx6 (Bz.ext F1)) (fun hHeld => ?_)
  clear hK K eu1
  refine wpAnyH_ready (rs := [3]) (by as_aux_lemma => kernel_rfl) (by simp) ?_
  refine AllReadyH.cons rfl (fun K hK => ?_) AllReadyH.nil
  go_simp
  refine (HR2.out _ F1).mono ?_
  rintro _ u2 ⟨rfl, eu2⟩
  have F2 : Ext w1 u2 := F1.trans eu2
  refine hK.out _ _ (bx6 (Bz.ext F2)) (fun hHeld => ?_)
  clear hK K eu2 F1
  refine wpAnyH_take (i := 4) (v := ?_) rfl (by as_aux_lemma => kernel_rfl) (by as_aux_lemma => kernel_rfl) (by as_aux_lemma => kernel_rfl) (fun _ _ _ h => h) (Or.inl ⟨by rfl, ?_⟩) (by assumption) ?_
  rotate_left
  · (intro w hSw; (try dsimp only at hSw); go_simp); (try with_reducible rfl)
  simp only [List.getElem_toArray, List.getElem_cons_zero, List.getElem_cons_succ, Act.put, List.setIfInBounds_toArray, List.set_cons_zero, List.set_cons_succ]
  refine wpAnyH_done (by as_aux_lemma => kernel_rfl) ?_ _
  replace T := T.ext F2
  replace rowa := rowa.ext F2
  replace rowa' := rowa'.ext F2
  replace rowb := rowb.ext F2
  replace rowb' := rowb'.ext F2
  replace rowe := rowe.ext F2
  replace Bz := Bz.ext F2
  replace Ba := Ba.ext F2
  replace Bb := Bb.ext F2
  replace Be := Be.ext F2
  have E2x := E1.trans F2
  clear F2 E1 Bz_0 Bz_1 Bz_2 Bz_3 Bz_4 Bz_5 Bz_l hHeld
  clear HR1 HR2 hne Bz y0 e0d y1 e1d y2 e2d y3 e3d y4 e4d y5 e5d g0 g1 g2 g3 g4 g5
  obtain ⟨Ba_0, Ba_1, Ba_2, Ba_3, Ba_4, Ba_5⟩ := id Ba
  have Ba_l := World.block_lt_of_cell? _ _ Ba_0
  obtain ⟨Bb_0, Bb_1, Bb_2, Bb_3, Bb_4, Bb_5⟩ := id Bb
  have Bb_l := World.block_lt_of_cell? _ _ Bb_0
  have HG := Lib.hid (good5_any _ _ 2 2 _ _ _ _ _ _ _ _ (by omega) (manyI2 u2 26 nba nbb Ma Mb xa xb ia ib rowa rowb bda bdb nba' nbb' Ma' Mb' xa' xb' ia' ib' rowa' rowb' bda' bdb'))
  rw [hg] at HG
  clear hg
  go_wp2_with fail
  refine (HG.out).mono ?_
  rintro _ w3 ⟨rfl, f3⟩
  clear Ba_0 Ba_1 Ba_2 Ba_3 Ba_4 Ba_5 Ba_l Bb_0 Bb_1 Bb_2 Bb_3 Bb_4 Bb_5 Bb_l
  have e3 : Ext u2 w3 := ((Ext.refl u2).alloc _).trans f3
  replace T := T.ext e3
  replace rowa := rowa.ext e3
  replace rowa' := rowa'.ext e3
  replace rowb := rowb.ext e3
  replace rowb' := rowb'.ext e3
  replace rowe := rowe.ext e3
  replace Ba := Ba.ext e3
  replace Bb := Bb.ext e3
  replace Be := Be.ext e3
  have E3 : Ext w w3 := E2x.trans e3
  clear e3 f3 E2x
  clear HG
  clear rowa rowa' rowb rowb'
  clear bda bda' bdb bdb'
  obtain ⟨Be_0, Be_1, Be_2⟩ := id Be
  have Be_l := World.block_lt_of_cell? _ _ Be_0
  have HG := Lib.hid (good_any _ _ 1 1 _ _ _ _ (by omega) (many1 w3 24 nbe Me xe ie rowe bde))
  rw [hd] at HG
  clear hd
  go_wp2_with fail
  refine (HG.out).mono ?_
  rintro _ w4 ⟨rfl, f4⟩
  clear Be_0 Be_1 Be_2 Be_l
  have e4 : Ext w3 w4 := ((Ext.refl w3).alloc _).trans f4
  replace T := T.ext e4
  replace rowe := rowe.ext e4
  replace Ba := Ba.ext e4
  replace Bb := Bb.ext e4
  replace Be := Be.ext e4
  have E4 : Ext w w4 := E3.trans e4
  clear e4 f4 E3
  clear HG
  go_wp2
  go_ret
  exact ⟨rfl, E4⟩
set_option maxRecDepth 100000 in
set_option maxHeartbeats 16000000 in
theorem tells_low (w : World) (T : Tb w) (nbz : Bool) (Mz : Value) (xz : List Int) (iz : Int) (rowz : Row w Mz xz) (bdz : -9223372036854775808 ≤ iz ∧ iz ≤ 9223372036854775807) (nbz' : Bool) (Mz' : Value) (xz' : List Int) (iz' : Int) (rowz' : Row w Mz' xz') (bdz' : -9223372036854775808 ≤ iz' ∧ iz' ≤ 9223372036854775807) (nba : Bool) (Ma : Value) (xa : List Int) (ia : Int) (rowa : Row w Ma xa) (bda : -9223372036854775808 ≤ ia ∧ ia ≤ 9223372036854775807) (nba' : Bool) (Ma' : Value) (xa' : List Int) (ia' : Int) (rowa' : Row w Ma' xa') (bda' : -9223372036854775808 ≤ ia' ∧ ia' ≤ 9223372036854775807) (nbb : Bool) (Mb : Value) (xb : List Int) (ib : Int) (rowb : Row w Mb xb) (bdb : -9223372036854775808 ≤ ib ∧ ib ≤ 9223372036854775807) (nbb' : Bool) (Mb' : Value) (xb' : List Int) (ib' : Int) (rowb' : Row w Mb' xb') (bdb' : -9223372036854775808 ≤ ib' ∧ ib' ≤ 9223372036854775807) (nbe : Bool) (Me : Value) (xe : List Int) (ie : Int) (rowe : Row w Me xe) (bde : -9223372036854775808 ≤ ie ∧ ie ≤ 9223372036854775807) (n : Int) (bn : 0 ≤ n ∧ n ≤ 255) (k : Int) (bk : -9223372036854775808 ≤ k ∧ k ≤ 9223372036854775807) (g0 : ¬ (70 : Int) < (xz.length : Int)) (g1 : ¬ (70 : Int) < (xz'.length : Int)) (g2 : ¬ (7000 : Int) < iz) (g3 : ¬ iz < (-7000 : Int)) (g4 : ¬ (7000 : Int) < iz') (g5 : ¬ iz' < (-7000 : Int)) (hg : goodIs 2 (pk nba nbb nbb) (pk xa xb xb) (pk ia ib ib) (pk nba' nbb' nbb') (pk xa' xb' xb') (pk ia' ib' ib') = true) (hd : goodAll 1 (pk nbe nbe nbe) (pk xe xe xe) (pk ie ie ie) = true) (hk : k < -500) :
    Calls Tryz.prog 3 #[.agg #[.bool nbz, Mz, .int .i64 iz, .bool nbz', Mz', .int .i64 iz'], .agg #[.bool nba, Ma, .int .i64 ia, .bool nba', Ma', .int .i64 ia'], .agg #[.bool nbb, Mb, .int .i64 ib, .bool nbb', Mb', .int .i64 ib'], .agg #[.bool nbe, Me, .int .i64 ie], .int .u8 n, .int .i64 k] w (RetE w (.bool true)) := by
  obtain ⟨Az, cz, rfl, hz1, hz2, hz3⟩ := id rowz
  obtain ⟨Az', cz', rfl, hz1', hz2', hz3'⟩ := id rowz'
  clear hz1 hz2 hz3 hz1' hz2' hz3'
  go_enter Tryz.func3, Tryz.ntmps3
  go_wp2_with fail
  refine (headI_any _ (T.ext (((((Ext.refl w).alloc _).alloc _).alloc _).alloc _))).mono ?_
  rintro _ w1 ⟨rfl, f1⟩
  have Bz : Bx w1 (w.heap.size) (.bool nbz) (.slice Az xz.length cz) (.int .i64 iz) (.bool nbz') (.slice Az' xz'.length cz') (.int .i64 iz') := Bx.at (((((Ext.refl _).alloc _).alloc _).alloc _).trans f1) (by simp)
  have Ba : Bx w1 (w.heap.size + 1) (.bool nba) (Ma) (.int .i64 ia) (.bool nba') (Ma') (.int .i64 ia') := Bx.at ((((Ext.refl _).alloc _).alloc _).trans f1) (by simp)
  have Bb : Bx w1 (w.heap.size + 1 + 1) (.bool nbb) (Mb) (.int .i64 ib) (.bool nbb') (Mb') (.int .i64 ib') := Bx.at (((Ext.refl _).alloc _).trans f1) (by simp)
  have Be : Box w1 (w.heap.size + 1 + 1 + 1) (.bool nbe) (Me) (.int .i64 ie) := Box.at ((Ext.refl _).trans f1) (by simp)
  have e1 : Ext w w1 := (((((Ext.refl w).alloc _).alloc _).alloc _).alloc _).trans f1
  replace T := T.ext e1
  replace rowz := rowz.ext e1
  replace rowz' := rowz'.ext e1
  replace rowa := rowa.ext e1
  replace rowa' := rowa'.ext e1
  replace rowb := rowb.ext e1
  replace rowb' := rowb'.ext e1
  replace rowe := rowe.ext e1
  have E1 : Ext w w1 := e1
  clear f1
  obtain ⟨Bz_0, Bz_1, Bz_2, Bz_3, Bz_4, Bz_5⟩ := id Bz
  have Bz_l := World.block_lt_of_cell? _ _ Bz_0
  have y0 : ¬ (70 : Int) < (xz.length : Int) := by omega
  have e0d : decide ((70 : Int) < (xz.length : Int)) = false := decide_eq_false y0
  have y1 : ¬ (70 : Int) < (xz'.length : Int) := by omega
  have e1d : decide ((70 : Int) < (xz'.length : Int)) = false := decide_eq_false y1
  have y2 : ¬ (7000 : Int) < iz := by omega
  have e2d : decide ((7000 : Int) < iz) = false := decide_eq_false y2
  have y3 : ¬ iz < (-7000 : Int) := by omega
  have e3d : decide (iz < (-7000 : Int)) = false := decide_eq_false y3
  have y4 : ¬ (7000 : Int) < iz' := by omega
  have e4d : decide ((7000 : Int) < iz') = false := decide_eq_false y4
  have y5 : ¬ iz' < (-7000 : Int) := by omega
  have e5d : decide (iz' < (-7000 : Int)) = false := decide_eq_false y5
  obtain ⟨bz_, hr1, hr2⟩ := right_both _ nbz Az xz.length cz xz iz nbz' Az' xz'.length cz' xz' iz' rowz rowz' bdz bdz'
  have HR1 := Lib.hid hr1
  have HR2 := Lib.hid hr2
  have hne : (bz_ != bz_) = false := by simp
  clear hr1 hr2 bdz bdz'
  clear rowz rowz'
  go_wp2
  refine wp_region_held_drew (S := (fun w' => (w'.cell? ⟨w.heap.size, 0, none⟩ = some (.bool nbz) ∧ w'.cell? ⟨w.heap.size, 1, none⟩ = some (.slice Az xz.length cz) ∧ w'.cell? ⟨w.heap.size, 2, none⟩ = some (.int .i64 iz) ∧ w'.cell? ⟨w.heap.size, 3, none⟩ = some (.bool nbz') ∧ w'.cell? ⟨w.heap.size, 4, none⟩ = some (.slice Az' xz'.length cz') ∧ w'.cell? ⟨w.heap.size, 5, none⟩ = some (.int .i64 iz')))) (by as_aux_lemma => kernel_rfl) (bx6 (Bz.ext (Ext.refl w1).drew)) (fun hHeld => ?_)
  refine wpAnyH_take (i := 0) (v := ?_) rfl (by as_aux_lemma => kernel_rfl) (by as_aux_lemma => kernel_rfl) (by as_aux_lemma => kernel_rfl) (fun _ _ _ h => h) (Or.inl ⟨by rfl, ?_⟩) (by assumption) ?_
  rotate_left
  · (intro w hSw; (try dsimp only at hSw); go_simp); (try with_reducible rfl)
  simp only [List.getElem_toArray, List.getElem_cons_zero, Act.put, List.setIfInBounds_toArray, List.set_cons_zero, List.set_cons_succ]
  refine wpAnyH_take (i := 2) (v := ?_) rfl (by as_aux_lemma => kernel_rfl) (by as_aux_lemma => kernel_rfl) (by as_aux_lemma => kernel_rfl) (fun _ _ _ h => h) (Or.inl ⟨by rfl, ?_⟩) (by assumption) ?_
  rotate_left
  · (intro w hSw; (try dsimp only at hSw); go_simp); (try with_reducible rfl)
  simp only [List.getElem_toArray, List.getElem_cons_zero, List.getElem_cons_succ, Act.put, List.setIfInBounds_toArray, List.set_cons_zero, List.set_cons_succ]
  refine wpAnyH_ready (rs := [1]) (by as_aux_lemma => kernel_rfl) (by simp) ?_
  refine AllReadyH.cons rfl (fun K hK => ?_) AllReadyH.nil
  go_simp
  refine (HR1.out _ (Ext.refl w1).drew).mono ?_
  rintro _ u1 ⟨rfl, eu1⟩
  have F1 : Ext w1 u1 := (Ext.refl w1).drew.trans eu1
  refine hK.out _ _ (bx6 (Bz.ext F1)) (fun hHeld => ?_)
  clear hK K eu1
  refine wpAnyH_ready (rs := [3]) (by as_aux_lemma => kernel_rfl) (by simp) ?_
  refine AllReadyH.cons rfl (fun K hK => ?_) AllReadyH.nil
  go_simp
  refine (HR2.out _ F1).mono ?_
  rintro _ u2 ⟨rfl, eu2⟩
  have F2 : Ext w1 u2 := F1.trans eu2
  refine hK.out _ _ (bx6 (Bz.ext F2)) (fun hHeld => ?_)
  clear hK K eu2 F1
  refine wpAnyH_take (i := 4) (v := ?_) rfl (by as_aux_lemma => kernel_rfl) (by as_aux_lemma => kernel_rfl) (by as_aux_lemma => kernel_rfl) (fun _ _ _ h => h) (Or.inl ⟨by rfl, ?_⟩) (by assumption) ?_
  rotate_left
  · (intro w hSw; (try dsimp only at hSw); go_simp); (try with_reducible rfl)
  simp only [List.getElem_toArray, List.getElem_cons_zero, List.getElem_cons_succ, Act.put, List.setIfInBounds_toArray, List.set_cons_zero, List.set_cons_succ]
  refine wpAnyH_done (by as_aux_lemma => kernel_rfl) ?_ _
  replace T := T.ext F2
  replace rowa := rowa.ext F2
  replace rowa' := rowa'.ext F2
  replace rowb := rowb.ext F2
  replace rowb' := rowb'.ext F2
  replace rowe := rowe.ext F2
  replace Bz := Bz.ext F2
  replace Ba := Ba.ext F2
  replace Bb := Bb.ext F2
  replace Be := Be.ext F2
  have E2x := E1.trans F2
  clear F2 E1 Bz_0 Bz_1 Bz_2 Bz_3 Bz_4 Bz_5 Bz_l hHeld
  clear HR1 HR2 hne Bz y0 e0d y1 e1d y2 e2d y3 e3d y4 e4d y5 e5d g0 g1 g2 g3 g4 g5
  obtain ⟨Ba_0, Ba_1, Ba_2, Ba_3, Ba_4, Ba_5⟩ := id Ba
  have Ba_l := World.block_lt_of_cell? _ _ Ba_0
  obtain ⟨Bb_0, Bb_1, Bb_2, Bb_3, Bb_4, Bb_5⟩ := id Bb
  have Bb_l := World.block_lt_of_cell? _ _ Bb_0
  have HG := Lib.hid (good5_any _ _ 2 2 _ _ _ _ _ _ _ _ (by omega) (manyI2 u2 26 nba nbb Ma Mb xa xb ia ib rowa rowb bda bdb nba' nbb' Ma' Mb' xa' xb' ia' ib' rowa' rowb' bda' bdb'))
  rw [hg] at HG
  clear hg
  go_wp2_with fail
  refine (HG.out).mono ?_
  rintro _ w3 ⟨rfl, f3⟩
  clear Ba_0 Ba_1 Ba_2 Ba_3 Ba_4 Ba_5 Ba_l Bb_0 Bb_1 Bb_2 Bb_3 Bb_4 Bb_5 Bb_l
  have e3 : Ext u2 w3 := ((Ext.refl u2).alloc _).trans f3
  replace T := T.ext e3
  replace rowa := rowa.ext e3
  replace rowa' := rowa'.ext e3
  replace rowb := rowb.ext e3
  replace rowb' := rowb'.ext e3
  replace rowe := rowe.ext e3
  replace Ba := Ba.ext e3
  replace Bb := Bb.ext e3
  replace Be := Be.ext e3
  have E3 : Ext w w3 := E2x.trans e3
  clear e3 f3 E2x
  clear HG
  clear rowa rowa' rowb rowb'
  clear bda bda' bdb bdb'
  obtain ⟨Be_0, Be_1, Be_2⟩ := id Be
  have Be_l := World.block_lt_of_cell? _ _ Be_0
  have HG := Lib.hid (good_any _ _ 1 1 _ _ _ _ (by omega) (many1 w3 24 nbe Me xe ie rowe bde))
  rw [hd] at HG
  clear hd
  go_wp2_with fail
  refine (HG.out).mono ?_
  rintro _ w4 ⟨rfl, f4⟩
  clear Be_0 Be_1 Be_2 Be_l
  have e4 : Ext w3 w4 := ((Ext.refl w3).alloc _).trans f4
  replace T := T.ext e4
  replace rowe := rowe.ext e4
  replace Ba := Ba.ext e4
  replace Bb := Bb.ext e4
  replace Be := Be.ext e4
  have E4 : Ext w w4 := E3.trans e4
  clear e4 f4 E3
  clear HG
  go_wp2
  go_ret
  exact ⟨rfl, E4⟩
set_option maxRecDepth 100000 in
set_option maxHeartbeats 16000000 in
theorem tells_high (w : World) (T : Tb w) (nbz : Bool) (Mz : Value) (xz : List Int) (iz : Int) (rowz : Row w Mz xz) (bdz : -9223372036854775808 ≤ iz ∧ iz ≤ 9223372036854775807) (nbz' : Bool) (Mz' : Value) (xz' : List Int) (iz' : Int) (rowz' : Row w Mz' xz') (bdz' : -9223372036854775808 ≤ iz' ∧ iz' ≤ 9223372036854775807) (nba : Bool) (Ma : Value) (xa : List Int) (ia : Int) (rowa : Row w Ma xa) (bda : -9223372036854775808 ≤ ia ∧ ia ≤ 9223372036854775807) (nba' : Bool) (Ma' : Value) (xa' : List Int) (ia' : Int) (rowa' : Row w Ma' xa') (bda' : -9223372036854775808 ≤ ia' ∧ ia' ≤ 9223372036854775807) (nbb : Bool) (Mb : Value) (xb : List Int) (ib : Int) (rowb : Row w Mb xb) (bdb : -9223372036854775808 ≤ ib ∧ ib ≤ 9223372036854775807) (nbb' : Bool) (Mb' : Value) (xb' : List Int) (ib' : Int) (rowb' : Row w Mb' xb') (bdb' : -9223372036854775808 ≤ ib' ∧ ib' ≤ 9223372036854775807) (nbe : Bool) (Me : Value) (xe : List Int) (ie : Int) (rowe : Row w Me xe) (bde : -9223372036854775808 ≤ ie ∧ ie ≤ 9223372036854775807) (n : Int) (bn : 0 ≤ n ∧ n ≤ 255) (k : Int) (bk : -9223372036854775808 ≤ k ∧ k ≤ 9223372036854775807) (g0 : ¬ (70 : Int) < (xz.length : Int)) (g1 : ¬ (70 : Int) < (xz'.length : Int)) (g2 : ¬ (7000 : Int) < iz) (g3 : ¬ iz < (-7000 : Int)) (g4 : ¬ (7000 : Int) < iz') (g5 : ¬ iz' < (-7000 : Int)) (hg : goodIs 2 (pk nba nbb nbb) (pk xa xb xb) (pk ia ib ib) (pk nba' nbb' nbb') (pk xa' xb' xb') (pk ia' ib' ib') = true) (hd : goodAll 1 (pk nbe nbe nbe) (pk xe xe xe) (pk ie ie ie) = true) (hk0 : ¬ k < -500) (hk : 500 < k) :
    Calls Tryz.prog 3 #[.agg #[.bool nbz, Mz, .int .i64 iz, .bool nbz', Mz', .int .i64 iz'], .agg #[.bool nba, Ma, .int .i64 ia, .bool nba', Ma', .int .i64 ia'], .agg #[.bool nbb, Mb, .int .i64 ib, .bool nbb', Mb', .int .i64 ib'], .agg #[.bool nbe, Me, .int .i64 ie], .int .u8 n, .int .i64 k] w (RetE w (.bool true)) := by
  obtain ⟨Az, cz, rfl, hz1, hz2, hz3⟩ := id rowz
  obtain ⟨Az', cz', rfl, hz1', hz2', hz3'⟩ := id rowz'
  clear hz1 hz2 hz3 hz1' hz2' hz3'
  go_enter Tryz.func3, Tryz.ntmps3
  go_wp2_with fail
  refine (headI_any _ (T.ext (((((Ext.refl w).alloc _).alloc _).alloc _).alloc _))).mono ?_
  rintro _ w1 ⟨rfl, f1⟩
  have Bz : Bx w1 (w.heap.size) (.bool nbz) (.slice Az xz.length cz) (.int .i64 iz) (.bool nbz') (.slice Az' xz'.length cz') (.int .i64 iz') := Bx.at (((((Ext.refl _).alloc _).alloc _).alloc _).trans f1) (by simp)
  have Ba : Bx w1 (w.heap.size + 1) (.bool nba) (Ma) (.int .i64 ia) (.bool nba') (Ma') (.int .i64 ia') := Bx.at ((((Ext.refl _).alloc _).alloc _).trans f1) (by simp)
  have Bb : Bx w1 (w.heap.size + 1 + 1) (.bool nbb) (Mb) (.int .i64 ib) (.bool nbb') (Mb') (.int .i64 ib') := Bx.at (((Ext.refl _).alloc _).trans f1) (by simp)
  have Be : Box w1 (w.heap.size + 1 + 1 + 1) (.bool nbe) (Me) (.int .i64 ie) := Box.at ((Ext.refl _).trans f1) (by simp)
  have e1 : Ext w w1 := (((((Ext.refl w).alloc _).alloc _).alloc _).alloc _).trans f1
  replace T := T.ext e1
  replace rowz := rowz.ext e1
  replace rowz' := rowz'.ext e1
  replace rowa := rowa.ext e1
  replace rowa' := rowa'.ext e1
  replace rowb := rowb.ext e1
  replace rowb' := rowb'.ext e1
  replace rowe := rowe.ext e1
  have E1 : Ext w w1 := e1
  clear f1
  obtain ⟨Bz_0, Bz_1, Bz_2, Bz_3, Bz_4, Bz_5⟩ := id Bz
  have Bz_l := World.block_lt_of_cell? _ _ Bz_0
  have y0 : ¬ (70 : Int) < (xz.length : Int) := by omega
  have e0d : decide ((70 : Int) < (xz.length : Int)) = false := decide_eq_false y0
  have y1 : ¬ (70 : Int) < (xz'.length : Int) := by omega
  have e1d : decide ((70 : Int) < (xz'.length : Int)) = false := decide_eq_false y1
  have y2 : ¬ (7000 : Int) < iz := by omega
  have e2d : decide ((7000 : Int) < iz) = false := decide_eq_false y2
  have y3 : ¬ iz < (-7000 : Int) := by omega
  have e3d : decide (iz < (-7000 : Int)) = false := decide_eq_false y3
  have y4 : ¬ (7000 : Int) < iz' := by omega
  have e4d : decide ((7000 : Int) < iz') = false := decide_eq_false y4
  have y5 : ¬ iz' < (-7000 : Int) := by omega
  have e5d : decide (iz' < (-7000 : Int)) = false := decide_eq_false y5
  obtain ⟨bz_, hr1, hr2⟩ := right_both _ nbz Az xz.length cz xz iz nbz' Az' xz'.length cz' xz' iz' rowz rowz' bdz bdz'
  have HR1 := Lib.hid hr1
  have HR2 := Lib.hid hr2
  have hne : (bz_ != bz_) = false := by simp
  clear hr1 hr2 bdz bdz'
  clear rowz rowz'
  go_wp2
  refine wp_region_held_drew (S := (fun w' => (w'.cell? ⟨w.heap.size, 0, none⟩ = some (.bool nbz) ∧ w'.cell? ⟨w.heap.size, 1, none⟩ = some (.slice Az xz.length cz) ∧ w'.cell? ⟨w.heap.size, 2, none⟩ = some (.int .i64 iz) ∧ w'.cell? ⟨w.heap.size, 3, none⟩ = some (.bool nbz') ∧ w'.cell? ⟨w.heap.size, 4, none⟩ = some (.slice Az' xz'.length cz') ∧ w'.cell? ⟨w.heap.size, 5, none⟩ = some (.int .i64 iz')))) (by as_aux_lemma => kernel_rfl) (bx6 (Bz.ext (Ext.refl w1).drew)) (fun hHeld => ?_)
  refine wpAnyH_take (i := 0) (v := ?_) rfl (by as_aux_lemma => kernel_rfl) (by as_aux_lemma => kernel_rfl) (by as_aux_lemma => kernel_rfl) (fun _ _ _ h => h) (Or.inl ⟨by rfl, ?_⟩) (by assumption) ?_
  rotate_left
  · (intro w hSw; (try dsimp only at hSw); go_simp); (try with_reducible rfl)
  simp only [List.getElem_toArray, List.getElem_cons_zero, Act.put, List.setIfInBounds_toArray, List.set_cons_zero, List.set_cons_succ]
  refine wpAnyH_take (i := 2) (v := ?_) rfl (by as_aux_lemma => kernel_rfl) (by as_aux_lemma => kernel_rfl) (by as_aux_lemma => kernel_rfl) (fun _ _ _ h => h) (Or.inl ⟨by rfl, ?_⟩) (by assumption) ?_
  rotate_left
  · (intro w hSw; (try dsimp only at hSw); go_simp); (try with_reducible rfl)
  simp only [List.getElem_toArray, List.getElem_cons_zero, List.getElem_cons_succ, Act.put, List.setIfInBounds_toArray, List.set_cons_zero, List.set_cons_succ]
  refine wpAnyH_ready (rs := [1]) (by as_aux_lemma => kernel_rfl) (by simp) ?_
  refine AllReadyH.cons rfl (fun K hK => ?_) AllReadyH.nil
  go_simp
  refine (HR1.out _ (Ext.refl w1).drew).mono ?_
  rintro _ u1 ⟨rfl, eu1⟩
  have F1 : Ext w1 u1 := (Ext.refl w1).drew.trans eu1
  refine hK.out _ _ (bx6 (Bz.ext F1)) (fun hHeld => ?_)
  clear hK K eu1
  refine wpAnyH_ready (rs := [3]) (by as_aux_lemma => kernel_rfl) (by simp) ?_
  refine AllReadyH.cons rfl (fun K hK => ?_) AllReadyH.nil
  go_simp
  refine (HR2.out _ F1).mono ?_
  rintro _ u2 ⟨rfl, eu2⟩
  have F2 : Ext w1 u2 := F1.trans eu2
  refine hK.out _ _ (bx6 (Bz.ext F2)) (fun hHeld => ?_)
  clear hK K eu2 F1
  refine wpAnyH_take (i := 4) (v := ?_) rfl (by as_aux_lemma => kernel_rfl) (by as_aux_lemma => kernel_rfl) (by as_aux_lemma => kernel_rfl) (fun _ _ _ h => h) (Or.inl ⟨by rfl, ?_⟩) (by assumption) ?_
  rotate_left
  · (intro w hSw; (try dsimp only at hSw); go_simp); (try with_reducible rfl)
  simp only [List.getElem_toArray, List.getElem_cons_zero, List.getElem_cons_succ, Act.put, List.setIfInBounds_toArray, List.set_cons_zero, List.set_cons_succ]
  refine wpAnyH_done (by as_aux_lemma => kernel_rfl) ?_ _
  replace T := T.ext F2
  replace rowa := rowa.ext F2
  replace rowa' := rowa'.ext F2
  replace rowb := rowb.ext F2
  replace rowb' := rowb'.ext F2
  replace rowe := rowe.ext F2
  replace Bz := Bz.ext F2
  replace Ba := Ba.ext F2
  replace Bb := Bb.ext F2
  replace Be := Be.ext F2
  have E2x := E1.trans F2
  clear F2 E1 Bz_0 Bz_1 Bz_2 Bz_3 Bz_4 Bz_5 Bz_l hHeld
  clear HR1 HR2 hne Bz y0 e0d y1 e1d y2 e2d y3 e3d y4 e4d y5 e5d g0 g1 g2 g3 g4 g5
  obtain ⟨Ba_0, Ba_1, Ba_2, Ba_3, Ba_4, Ba_5⟩ := id Ba
  have Ba_l := World.block_lt_of_cell? _ _ Ba_0
  obtain ⟨Bb_0, Bb_1, Bb_2, Bb_3, Bb_4, Bb_5⟩ := id Bb
  have Bb_l := World.block_lt_of_cell? _ _ Bb_0
  have HG := Lib.hid (good5_any _ _ 2 2 _ _ _ _ _ _ _ _ (by omega) (manyI2 u2 26 nba nbb Ma Mb xa xb ia ib rowa rowb bda bdb nba' nbb' Ma' Mb' xa' xb' ia' ib' rowa' rowb' bda' bdb'))
  rw [hg] at HG
  clear hg
  go_wp2_with fail
  refine (HG.out).mono ?_
  rintro _ w3 ⟨rfl, f3⟩
  clear Ba_0 Ba_1 Ba_2 Ba_3 Ba_4 Ba_5 Ba_l Bb_0 Bb_1 Bb_2 Bb_3 Bb_4 Bb_5 Bb_l
  have e3 : Ext u2 w3 := ((Ext.refl u2).alloc _).trans f3
  replace T := T.ext e3
  replace rowa := rowa.ext e3
  replace rowa' := rowa'.ext e3
  replace rowb := rowb.ext e3
  replace rowb' := rowb'.ext e3
  replace rowe := rowe.ext e3
  replace Ba := Ba.ext e3
  replace Bb := Bb.ext e3
  replace Be := Be.ext e3
  have E3 : Ext w w3 := E2x.trans e3
  clear e3 f3 E2x
  clear HG
  clear rowa rowa' rowb rowb'
  clear bda bda' bdb bdb'
  obtain ⟨Be_0, Be_1, Be_2⟩ := id Be
  have Be_l := World.block_lt_of_cell? _ _ Be_0
  have HG := Lib.hid (good_any _ _ 1 1 _ _ _ _ (by omega) (many1 w3 24 nbe Me xe ie rowe bde))
  rw [hd] at HG
  clear hd
  go_wp2_with fail
  refine (HG.out).mono ?_
  rintro _ w4 ⟨rfl, f4⟩
  clear Be_0 Be_1 Be_2 Be_l
  have e4 : Ext w3 w4 := ((Ext.refl w3).alloc _).trans f4
  replace T := T.ext e4
  replace rowe := rowe.ext e4
  replace Ba := Ba.ext e4
  replace Bb := Bb.ext e4
  replace Be := Be.ext e4
  have E4 : Ext w w4 := E3.trans e4
  clear e4 f4 E3
  clear HG
  go_wp2
  go_ret
  exact ⟨rfl, E4⟩
end Go.Proofs.YtimdglgianheiaaGreatDoor
