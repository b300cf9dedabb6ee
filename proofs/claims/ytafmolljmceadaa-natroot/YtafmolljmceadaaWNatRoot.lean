/- The walk of the law NatRoot. -/
import Derived.Test.YtafmolljmceadaaL2
namespace Go.Proofs.Ytafmolljmceadaa
open Go.RowKit

set_option maxRecDepth 100000 in
set_option maxHeartbeats 4000000 in
theorem walk_NatRoot (w : World) (va : Value) (xa : List Int) (ra : Row w va xa) : Calls Try.prog 7 #[va] w (RetE w (.bool true)) := by
  obtain ⟨Aa, ca, rfl, _, _, _⟩ := id ra
  cases hg : (badB xa)
  · have HG := Lib.hid hg
    have ga := hg
    clear hg
    obtain ⟨a, na, la, _, _⟩ := good_nat ra ga
    clear ga
    go_enter Try.func7, Try.ntmps7
    go_wp2_with fail
    refine (head_any w).mono ?_
    rintro e w1 ⟨rfl, e1⟩
    replace ra := ra.ext e1
    replace na := na.ext e1
    have E1 := e1
    clear e1
    go_wp2_with fail
    refine (great1 w1 (.slice Aa xa.length ca) xa _ ra).mono ?_
    rw [HG.out]
    rintro e w2 ⟨rfl, h2⟩
    have e2 : Ext w1 w2 := by rw [← h2]; exact (Ext.refl w1).alloc _
    clear h2 HG
    replace ra := ra.ext e2
    replace na := na.ext e2
    have E2 := E1.trans e2
    clear E1
    clear e2 ra
    go_wp2_with fail
    refine (root_any w2 _ a na (la.mono (by omega))).mono ?_
    rintro e w3 ⟨r, hsq, v3, rfl, n3, e3⟩
    replace na := na.ext e3
    have E3 := E2.trans e3
    clear E2
    clear e3
    have lr : Lt 30 r := la.of_le (sq_le hsq)
    have HSQ := Lib.hid hsq
    clear hsq
    go_wp2_with fail
    refine (rright_nat w3 v3 r n3 (lr.mono (by omega))).mono ?_
    rintro e w' ⟨rfl, rfl⟩
    go_wp2_with fail
    refine (add_any _ _ _ r 1 (n3.ext ((Ext.refl w3).alloc _)) (nat_lit1 w3 1 _ 1 (by omega) (by omega) rfl) (lr.mono (by omega)) ((lt_int (by omega)).mono (by omega))).mono ?_
    rintro e w4 ⟨v4, rfl, n4, f4⟩
    have e4 : Ext w3 w4 := ((Ext.refl w3).alloc _).trans f4
    clear f4
    replace na := na.ext e4
    replace n3 := n3.ext e4
    have E4 := E3.trans e4
    clear E3
    clear e4
    have lt : Lt 31 (r + 1) := (lr.add ((lt_int (show 1 < 9223372036854775808 by omega)).mono (show 3 ≤ 30 by omega)))
    go_wp2_with fail
    refine (mul_any w4 v3 v3 r r n3 n3 (lr.mono (by omega)) (lr.mono (by omega))).mono ?_
    rintro e w5 ⟨v5, rfl, n5, e5⟩
    replace na := na.ext e5
    replace n3 := n3.ext e5
    replace n4 := n4.ext e5
    have E5 := E4.trans e5
    clear E4
    clear e5
    go_wp2_with fail
    refine (cmp_z w5 v5 _ (r * r) a n5 na).mono ?_
    rintro e w6 ⟨z6, rfl, q6, z16, z26, z36, z46, z56, z66⟩
    have zz6 := z36 HSQ.out.1
    clear z36 z46 z56 z66
    have e6 := q6.ext
    replace na := na.ext e6
    replace n3 := n3.ext e6
    replace n4 := n4.ext e6
    replace n5 := n5.ext e6
    have E6 := E5.trans e6
    clear E5
    clear e6 q6
    clear n5
    go_wp2_with fail
    refine (mul_any w6 v4 v4 (r + 1) (r + 1) n4 n4 (lt.mono (by omega)) (lt.mono (by omega))).mono ?_
    rintro e w7 ⟨v7, rfl, n7, e7⟩
    replace na := na.ext e7
    replace n3 := n3.ext e7
    replace n4 := n4.ext e7
    have E7 := E6.trans e7
    clear E6
    clear e7
    go_wp2_with fail
    refine (cmp_z w7 v7 _ ((r + 1) * (r + 1)) a n7 na).mono ?_
    rintro e w8 ⟨z8, rfl, q8, z18, z28, z38, z48, z58, z68⟩
    have zz8 := z68 HSQ.out.2
    clear z38 z48 z58 z68
    have e8 := q8.ext
    replace na := na.ext e8
    replace n3 := n3.ext e8
    replace n4 := n4.ext e8
    replace n7 := n7.ext e8
    have E8 := E7.trans e8
    clear E7
    clear e8 q8
    clear n7
    go_wp2_with fail
    refine (mul_any w8 _ _ a a na na (la.mono (by omega)) (la.mono (by omega))).mono ?_
    rintro e w9 ⟨v9, rfl, n9, e9⟩
    replace na := na.ext e9
    replace n3 := n3.ext e9
    replace n4 := n4.ext e9
    have E9 := E8.trans e9
    clear E8
    clear e9
    go_wp2_with fail
    refine (root_nat w9 v9 (a * a) a n9 ((la.mul la).mono (by omega)) ⟨Nat.le_refl _, Nat.mul_lt_mul_of_lt_of_lt (Nat.lt_succ_self a) (Nat.lt_succ_self a)⟩).mono ?_
    rintro e w10 ⟨v10, rfl, n10, e10⟩
    replace na := na.ext e10
    replace n3 := n3.ext e10
    replace n4 := n4.ext e10
    replace n9 := n9.ext e10
    have E10 := E9.trans e10
    clear E9
    clear e10
    go_wp2_with fail
    refine (same_eq w10 v10 _ a n10 na).mono ?_
    rintro e w11 ⟨rfl, q11⟩
    have e11 := q11.ext
    replace na := na.ext e11
    replace n3 := n3.ext e11
    replace n4 := n4.ext e11
    replace n9 := n9.ext e11
    replace n10 := n10.ext e11
    have E11 := E10.trans e11
    clear E10
    clear e11 q11
    go_wp2
    go_ret
    exact ⟨rfl, E11⟩
  · have HG := Lib.hid hg
    clear hg
    go_enter Try.func7, Try.ntmps7
    go_wp2_with fail
    refine (head_any w).mono ?_
    rintro e w1 ⟨rfl, e1⟩
    replace ra := ra.ext e1
    have E1 := e1
    clear e1
    go_wp2_with fail
    refine (great1 w1 (.slice Aa xa.length ca) xa _ ra).mono ?_
    rw [HG.out]
    rintro e w2 ⟨rfl, h2⟩
    have e2 : Ext w1 w2 := by rw [← h2]; exact (Ext.refl w1).alloc _
    clear h2 HG
    replace ra := ra.ext e2
    have E2 := E1.trans e2
    clear E1
    clear e2 ra
    go_wp2
    go_ret
    exact ⟨rfl, E2⟩

end Go.Proofs.Ytafmolljmceadaa
