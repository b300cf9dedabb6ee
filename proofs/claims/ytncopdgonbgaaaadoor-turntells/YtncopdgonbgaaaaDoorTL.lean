/- Head of the laws on angles. -/
import Derived.Test.YtncopdgonbgaaaaDoorTE
import Derived.Laws.StructEq
namespace Go.Proofs.YtncopdgonbgaaaaDoor
open Go.RowKit
set_option linter.unusedVariables false
/-- The tables lie as they were laid. -/
structure Tu (w : World) : Prop where
  tb : Tb w
  pl : Pl w
theorem Tu.ext {w w' : World} (h : Tu w) (E : Ext w w') : Tu w' := ⟨h.tb.ext E, h.pl.ext E⟩
theorem tplace_lit (w : World) (P : Pl w) (e : Int) (a b c : Bool) (ha : plSwap e = a) (hb : plCos e = b) (hc : plSin e = c) : Calls Tryd.prog 10 #[.int .i64 e] w (RetE w (.tuple #[.bool a, .bool b, .bool c])) := by
  subst ha hb hc; exact tplace_any w P e
/-- Angles in their form, by numbers. -/
theorem fm_num {v k : Int} {q : Nat} (h : k % 2 = 1 ∧ 0 < k ∧ k < 2 ^ q ∧ q ≤ 40 ∧ v = k * 2 ^ (40 - q)) : Fm v k q := ⟨.inr h⟩
set_option maxRecDepth 100000 in
set_option maxHeartbeats 4000000 in
theorem headT_any (w : World) (T0 : Tu w) : Calls Tryd.prog 9 #[] w (RetE w (.bool true)) := by
  have T := Lib.hid T0
  clear T0
  go_enter Tryd.func9, Tryd.ntmps9
  go_wp2_with fail
  refine (tsplit_any _ T.out.tb 3 1 3 3 3 (by omega) (by omega) (by decide) (fm_num (by decide))).mono ?_
  rintro _ w1 ⟨rfl, e1⟩
  go_wp2_with fail
  refine (tplace_lit _ (T.out.ext (e1.alloc _)).pl 5 true true true (by decide) (by decide) (by decide)).mono ?_
  rintro _ w2 ⟨rfl, e2⟩
  have Bp : B3 w2 w1.heap.size (.int .i64 3) (.int .i64 1) (.int .i64 3) := B3.at e2 rfl
  have E0 : Ext w w2 := (e1.alloc _).trans e2
  clear e1 e2
  obtain ⟨Bp_0, Bp_1, Bp_2⟩ := id Bp
  go_wp2_with fail
  refine (tform_any _ (T.out.ext E0).tb (-6) 5 4 3 (by omega) (by omega) (fm_num (by decide))).mono ?_
  rintro _ x0 ⟨rfl, e0⟩
  clear Bp_0 Bp_1 Bp_2
  replace Bp := Bp.ext e0
  replace E0 := E0.trans e0
  clear e0
  obtain ⟨Bp_0, Bp_1, Bp_2⟩ := id Bp
  go_wp2_with fail
  refine (tform_any _ (T.out.ext E0).tb 8 0 3 0 (by omega) (by omega) (show Fm (tv 8 3) 0 0 from fm_zero)).mono ?_
  rintro _ x1 ⟨rfl, e1⟩
  clear Bp_0 Bp_1 Bp_2
  replace Bp := Bp.ext e1
  replace E0 := E0.trans e1
  clear e1
  obtain ⟨Bp_0, Bp_1, Bp_2⟩ := id Bp
  go_wp2_with fail
  refine (tadd_any _ (T.out.ext E0).tb 3 3 1 2 3 3 (by omega) (by omega) (by omega) (by omega) (fm_num (by decide))).mono ?_
  rintro _ x2 ⟨rfl, e2⟩
  clear Bp_0 Bp_1 Bp_2
  replace Bp := Bp.ext e2
  replace E0 := E0.trans e2
  clear e2
  obtain ⟨Bp_0, Bp_1, Bp_2⟩ := id Bp
  go_wp2_with fail
  refine (tflip_any _ (T.out.ext E0).tb 1 3 2 2 (by omega) (by omega) (fm_num (by decide))).mono ?_
  rintro _ x3 ⟨rfl, e3⟩
  clear Bp_0 Bp_1 Bp_2
  replace Bp := Bp.ext e3
  replace E0 := E0.trans e3
  clear e3
  obtain ⟨Bp_0, Bp_1, Bp_2⟩ := id Bp
  go_wp2_with fail
  refine (ttimes_any _ (T.out.ext E0).tb 1 (-3) 5 3 3 (by omega) (by omega) (fm_num (by decide))).mono ?_
  rintro _ x4 ⟨rfl, e4⟩
  clear Bp_0 Bp_1 Bp_2
  replace Bp := Bp.ext e4
  replace E0 := E0.trans e4
  clear e4
  obtain ⟨Bp_0, Bp_1, Bp_2⟩ := id Bp
  go_wp2_with fail
  refine (tjoin_any _ (T.out.ext E0).tb 412316860416 3 1 3 3 3 (by omega) (by decide) (show Fm (rest 412316860416) 1 3 from (fm_num (by decide))) (fm_num (by decide))).mono ?_
  rintro _ x5 ⟨rfl, e5⟩
  clear Bp_0 Bp_1 Bp_2
  replace Bp := Bp.ext e5
  replace E0 := E0.trans e5
  clear e5
  obtain ⟨Bp_0, Bp_1, Bp_2⟩ := id Bp
  go_wp2_with fail
  refine (tright_lit _ 0 40 true (by decide) (by omega) (by omega)).mono ?_
  rintro _ x6 ⟨rfl, e6⟩
  clear Bp_0 Bp_1 Bp_2
  replace Bp := Bp.ext e6
  replace E0 := E0.trans e6
  clear e6
  obtain ⟨Bp_0, Bp_1, Bp_2⟩ := id Bp
  go_wp2_with fail
  refine (tright_lit _ 0 41 false (by decide) (by omega) (by omega)).mono ?_
  rintro _ x7 ⟨rfl, e7⟩
  clear Bp_0 Bp_1 Bp_2
  replace Bp := Bp.ext e7
  replace E0 := E0.trans e7
  clear e7
  obtain ⟨Bp_0, Bp_1, Bp_2⟩ := id Bp
  go_wp2
  go_ret
  exact ⟨rfl, E0⟩
end Go.Proofs.YtncopdgonbgaaaaDoor
