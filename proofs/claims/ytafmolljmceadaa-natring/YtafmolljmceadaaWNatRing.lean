/- The walk of the law NatRing. -/
import Derived.Test.YtafmolljmceadaaL2
namespace Go.Proofs.Ytafmolljmceadaa
open Go.RowKit

set_option maxRecDepth 100000 in
set_option maxHeartbeats 4000000 in
theorem walk_NatRing (w : World) (va : Value) (xa : List Int) (ra : Row w va xa) (vb : Value) (xb : List Int) (rb : Row w vb xb) (vc : Value) (xc : List Int) (rc : Row w vc xc) : Calls Try.prog 4 #[va, vb, vc] w (RetE w (.bool true)) := by
  obtain ⟨Aa, ca, rfl, _, _, _⟩ := id ra
  obtain ⟨Ab, cb, rfl, _, _, _⟩ := id rb
  obtain ⟨Ac, cc, rfl, _, _, _⟩ := id rc
  cases hg : (badB xa || badB xb || badB xc)
  · have HG := Lib.hid hg
    rw [Bool.or_eq_false_iff, Bool.or_eq_false_iff] at hg
    obtain ⟨⟨ga, gb⟩, gc⟩ := hg
    obtain ⟨a, na, la, _, _⟩ := good_nat ra ga
    obtain ⟨b, nb, lb, _, _⟩ := good_nat rb gb
    obtain ⟨c, nc, lc, _, _⟩ := good_nat rc gc
    clear ga gb gc
    go_enter Try.func4, Try.ntmps4
    go_wp2_with fail
    refine (head_any w).mono ?_
    rintro e w1 ⟨rfl, e1⟩
    replace ra := ra.ext e1
    replace rb := rb.ext e1
    replace rc := rc.ext e1
    replace na := na.ext e1
    replace nb := nb.ext e1
    replace nc := nc.ext e1
    have E1 := e1
    clear e1
    go_wp2_with fail
    refine (great3 w1 (.slice Aa xa.length ca) (.slice Ab xb.length cb) (.slice Ac xc.length cc) xa xb xc _ ra rb rc).mono ?_
    rw [HG.out]
    rintro e w2 ⟨rfl, h2⟩
    have e2 : Ext w1 w2 := by rw [← h2]; exact (Ext.refl w1).alloc _
    clear h2 HG
    replace ra := ra.ext e2
    replace rb := rb.ext e2
    replace rc := rc.ext e2
    replace na := na.ext e2
    replace nb := nb.ext e2
    replace nc := nc.ext e2
    have E2 := E1.trans e2
    clear E1
    clear e2 ra rb rc
    go_wp2_with fail
    refine (add_any w2 _ _ a b na nb (la.mono (by omega)) (lb.mono (by omega))).mono ?_
    rintro e w3 ⟨v3, rfl, n3, e3⟩
    replace na := na.ext e3
    replace nb := nb.ext e3
    replace nc := nc.ext e3
    have E3 := E2.trans e3
    clear E2
    clear e3
    go_wp2_with fail
    refine (mul_any w3 _ _ a b na nb (la.mono (by omega)) (lb.mono (by omega))).mono ?_
    rintro e w4 ⟨v4, rfl, n4, e4⟩
    replace na := na.ext e4
    replace nb := nb.ext e4
    replace nc := nc.ext e4
    replace n3 := n3.ext e4
    have E4 := E3.trans e4
    clear E3
    clear e4
    have ls := la.add lb
    have lp := la.mul lb
    go_wp2_with fail
    refine (rright_nat w4 v3 (a + b) n3 (ls.mono (by omega))).mono ?_
    rintro e w' ⟨rfl, rfl⟩
    go_wp2_with fail
    refine (rright_nat w4 v4 (a * b) n4 (lp.mono (by omega))).mono ?_
    rintro e w' ⟨rfl, rfl⟩
    go_wp2_with fail
    refine (add_any w4 _ _ b a nb na (lb.mono (by omega)) (la.mono (by omega))).mono ?_
    rintro e w5 ⟨v5, rfl, n5, e5⟩
    rw [Nat.add_comm b a] at n5
    replace na := na.ext e5
    replace nb := nb.ext e5
    replace nc := nc.ext e5
    replace n3 := n3.ext e5
    replace n4 := n4.ext e5
    have E5 := E4.trans e5
    clear E4
    clear e5
    go_wp2_with fail
    refine (same_eq w5 v3 v5 (a + b) n3 n5).mono ?_
    rintro e w6 ⟨rfl, q6⟩
    have e6 := q6.ext
    replace na := na.ext e6
    replace nb := nb.ext e6
    replace nc := nc.ext e6
    replace n3 := n3.ext e6
    replace n4 := n4.ext e6
    replace n5 := n5.ext e6
    have E6 := E5.trans e6
    clear E5
    clear e6 q6
    clear n5
    go_wp2_with fail
    refine (mul_any w6 _ _ b a nb na (lb.mono (by omega)) (la.mono (by omega))).mono ?_
    rintro e w7 ⟨v7, rfl, n7, e7⟩
    rw [Nat.mul_comm b a] at n7
    replace na := na.ext e7
    replace nb := nb.ext e7
    replace nc := nc.ext e7
    replace n3 := n3.ext e7
    replace n4 := n4.ext e7
    have E7 := E6.trans e7
    clear E6
    clear e7
    go_wp2_with fail
    refine (same_eq w7 v4 v7 (a * b) n4 n7).mono ?_
    rintro e w8 ⟨rfl, q8⟩
    have e8 := q8.ext
    replace na := na.ext e8
    replace nb := nb.ext e8
    replace nc := nc.ext e8
    replace n3 := n3.ext e8
    replace n4 := n4.ext e8
    replace n7 := n7.ext e8
    have E8 := E7.trans e8
    clear E7
    clear e8 q8
    clear n7
    go_wp2_with fail
    refine (add_any w8 v3 _ (a + b) c n3 nc (ls.mono (by omega)) (lc.mono (by omega))).mono ?_
    rintro e w9 ⟨v9, rfl, n9, e9⟩
    replace na := na.ext e9
    replace nb := nb.ext e9
    replace nc := nc.ext e9
    replace n3 := n3.ext e9
    replace n4 := n4.ext e9
    have E9 := E8.trans e9
    clear E8
    clear e9
    go_wp2_with fail
    refine (add_any w9 _ _ b c nb nc (lb.mono (by omega)) (lc.mono (by omega))).mono ?_
    rintro e w10 ⟨v10, rfl, n10, e10⟩
    replace na := na.ext e10
    replace nb := nb.ext e10
    replace nc := nc.ext e10
    replace n3 := n3.ext e10
    replace n4 := n4.ext e10
    replace n9 := n9.ext e10
    have E10 := E9.trans e10
    clear E9
    clear e10
    go_wp2_with fail
    refine (add_any w10 _ v10 a (b + c) na n10 (la.mono (by omega)) ((lb.add lc).mono (by omega))).mono ?_
    rintro e w11 ⟨v11, rfl, n11, e11⟩
    rw [← Nat.add_assoc] at n11
    replace na := na.ext e11
    replace nb := nb.ext e11
    replace nc := nc.ext e11
    replace n3 := n3.ext e11
    replace n4 := n4.ext e11
    replace n9 := n9.ext e11
    replace n10 := n10.ext e11
    have E11 := E10.trans e11
    clear E10
    clear e11
    go_wp2_with fail
    refine (same_eq w11 v9 v11 (a + b + c) n9 n11).mono ?_
    rintro e w12 ⟨rfl, q12⟩
    have e12 := q12.ext
    replace na := na.ext e12
    replace nb := nb.ext e12
    replace nc := nc.ext e12
    replace n3 := n3.ext e12
    replace n4 := n4.ext e12
    replace n9 := n9.ext e12
    replace n10 := n10.ext e12
    replace n11 := n11.ext e12
    have E12 := E11.trans e12
    clear E11
    clear e12 q12
    clear n9 n10 n11
    go_wp2_with fail
    refine (mul_any w12 v4 _ (a * b) c n4 nc (lp.mono (by omega)) (lc.mono (by omega))).mono ?_
    rintro e w13 ⟨v13, rfl, n13, e13⟩
    replace na := na.ext e13
    replace nb := nb.ext e13
    replace nc := nc.ext e13
    replace n3 := n3.ext e13
    replace n4 := n4.ext e13
    have E13 := E12.trans e13
    clear E12
    clear e13
    go_wp2_with fail
    refine (mul_any w13 _ _ b c nb nc (lb.mono (by omega)) (lc.mono (by omega))).mono ?_
    rintro e w14 ⟨v14, rfl, n14, e14⟩
    replace na := na.ext e14
    replace nb := nb.ext e14
    replace nc := nc.ext e14
    replace n3 := n3.ext e14
    replace n4 := n4.ext e14
    replace n13 := n13.ext e14
    have E14 := E13.trans e14
    clear E13
    clear e14
    go_wp2_with fail
    refine (mul_any w14 _ v14 a (b * c) na n14 (la.mono (by omega)) ((lb.mul lc).mono (by omega))).mono ?_
    rintro e w15 ⟨v15, rfl, n15, e15⟩
    rw [← Nat.mul_assoc] at n15
    replace na := na.ext e15
    replace nb := nb.ext e15
    replace nc := nc.ext e15
    replace n3 := n3.ext e15
    replace n4 := n4.ext e15
    replace n13 := n13.ext e15
    replace n14 := n14.ext e15
    have E15 := E14.trans e15
    clear E14
    clear e15
    go_wp2_with fail
    refine (same_eq w15 v13 v15 (a * b * c) n13 n15).mono ?_
    rintro e w16 ⟨rfl, q16⟩
    have e16 := q16.ext
    replace na := na.ext e16
    replace nb := nb.ext e16
    replace nc := nc.ext e16
    replace n3 := n3.ext e16
    replace n4 := n4.ext e16
    replace n13 := n13.ext e16
    replace n14 := n14.ext e16
    replace n15 := n15.ext e16
    have E16 := E15.trans e16
    clear E15
    clear e16 q16
    clear n13 n14 n15
    go_wp2_with fail
    refine (mul_any w16 v3 _ (a + b) c n3 nc (ls.mono (by omega)) (lc.mono (by omega))).mono ?_
    rintro e w17 ⟨v17, rfl, n17, e17⟩
    replace na := na.ext e17
    replace nb := nb.ext e17
    replace nc := nc.ext e17
    replace n3 := n3.ext e17
    replace n4 := n4.ext e17
    have E17 := E16.trans e17
    clear E16
    clear e17
    go_wp2_with fail
    refine (mul_any w17 _ _ a c na nc (la.mono (by omega)) (lc.mono (by omega))).mono ?_
    rintro e w18 ⟨v18, rfl, n18, e18⟩
    replace na := na.ext e18
    replace nb := nb.ext e18
    replace nc := nc.ext e18
    replace n3 := n3.ext e18
    replace n4 := n4.ext e18
    replace n17 := n17.ext e18
    have E18 := E17.trans e18
    clear E17
    clear e18
    go_wp2_with fail
    refine (mul_any w18 _ _ b c nb nc (lb.mono (by omega)) (lc.mono (by omega))).mono ?_
    rintro e w19 ⟨v19, rfl, n19, e19⟩
    replace na := na.ext e19
    replace nb := nb.ext e19
    replace nc := nc.ext e19
    replace n3 := n3.ext e19
    replace n4 := n4.ext e19
    replace n17 := n17.ext e19
    replace n18 := n18.ext e19
    have E19 := E18.trans e19
    clear E18
    clear e19
    go_wp2_with fail
    refine (add_any w19 v18 v19 (a * c) (b * c) n18 n19 ((la.mul lc).mono (by omega)) ((lb.mul lc).mono (by omega))).mono ?_
    rintro e w20 ⟨v20, rfl, n20, e20⟩
    rw [← Nat.add_mul] at n20
    replace na := na.ext e20
    replace nb := nb.ext e20
    replace nc := nc.ext e20
    replace n3 := n3.ext e20
    replace n4 := n4.ext e20
    replace n17 := n17.ext e20
    replace n18 := n18.ext e20
    replace n19 := n19.ext e20
    have E20 := E19.trans e20
    clear E19
    clear e20
    go_wp2_with fail
    refine (same_eq w20 v17 v20 ((a + b) * c) n17 n20).mono ?_
    rintro e w21 ⟨rfl, q21⟩
    have e21 := q21.ext
    replace na := na.ext e21
    replace nb := nb.ext e21
    replace nc := nc.ext e21
    replace n3 := n3.ext e21
    replace n4 := n4.ext e21
    replace n17 := n17.ext e21
    replace n18 := n18.ext e21
    replace n19 := n19.ext e21
    replace n20 := n20.ext e21
    have E21 := E20.trans e21
    clear E20
    clear e21 q21
    clear n17 n18 n19 n20
    go_wp2_with fail
    refine (add_any w21 _ _ a 0 na (N.zero _ _ _ (by simp [maxLen])) (la.mono (by omega)) ((lt_int (by omega)).mono (by omega))).mono ?_
    rintro e w22 ⟨v22, rfl, n22, e22⟩
    rw [Nat.add_zero] at n22
    replace na := na.ext e22
    replace nb := nb.ext e22
    replace nc := nc.ext e22
    replace n3 := n3.ext e22
    replace n4 := n4.ext e22
    have E22 := E21.trans e22
    clear E21
    clear e22
    go_wp2_with fail
    refine (same_eq w22 v22 _ a n22 na).mono ?_
    rintro e w23 ⟨rfl, q23⟩
    have e23 := q23.ext
    replace na := na.ext e23
    replace nb := nb.ext e23
    replace nc := nc.ext e23
    replace n3 := n3.ext e23
    replace n4 := n4.ext e23
    replace n22 := n22.ext e23
    have E23 := E22.trans e23
    clear E22
    clear e23 q23
    clear n22
    go_wp2_with fail
    refine (mul_any _ _ _ a 1 (na.ext ((Ext.refl w23).alloc _)) (nat_lit1 w23 1 _ 1 (by omega) (by omega) rfl) (la.mono (by omega)) ((lt_int (by omega)).mono (by omega))).mono ?_
    rintro e w24 ⟨v24, rfl, n24, f24⟩
    rw [Nat.mul_one] at n24
    have e24 : Ext w23 w24 := ((Ext.refl w23).alloc _).trans f24
    clear f24
    replace na := na.ext e24
    replace nb := nb.ext e24
    replace nc := nc.ext e24
    replace n3 := n3.ext e24
    replace n4 := n4.ext e24
    have E24 := E23.trans e24
    clear E23
    clear e24
    go_wp2_with fail
    refine (same_eq w24 v24 _ a n24 na).mono ?_
    rintro e w25 ⟨rfl, q25⟩
    have e25 := q25.ext
    replace na := na.ext e25
    replace nb := nb.ext e25
    replace nc := nc.ext e25
    replace n3 := n3.ext e25
    replace n4 := n4.ext e25
    replace n24 := n24.ext e25
    have E25 := E24.trans e25
    clear E24
    clear e25 q25
    clear n24
    go_wp2_with fail
    refine (mul_any w25 _ _ a 0 na (N.zero _ _ _ (by simp [maxLen])) (la.mono (by omega)) ((lt_int (by omega)).mono (by omega))).mono ?_
    rintro e w26 ⟨v26, rfl, n26, e26⟩
    rw [Nat.mul_zero] at n26
    replace na := na.ext e26
    replace nb := nb.ext e26
    replace nc := nc.ext e26
    replace n3 := n3.ext e26
    replace n4 := n4.ext e26
    have E26 := E25.trans e26
    clear E25
    clear e26
    obtain ⟨A9, c9, rfl, _⟩ := n26.form
    clear n26
    go_wp2
    go_ret
    exact ⟨rfl, E26⟩
  · have HG := Lib.hid hg
    clear hg
    go_enter Try.func4, Try.ntmps4
    go_wp2_with fail
    refine (head_any w).mono ?_
    rintro e w1 ⟨rfl, e1⟩
    replace ra := ra.ext e1
    replace rb := rb.ext e1
    replace rc := rc.ext e1
    have E1 := e1
    clear e1
    go_wp2_with fail
    refine (great3 w1 (.slice Aa xa.length ca) (.slice Ab xb.length cb) (.slice Ac xc.length cc) xa xb xc _ ra rb rc).mono ?_
    rw [HG.out]
    rintro e w2 ⟨rfl, h2⟩
    have e2 : Ext w1 w2 := by rw [← h2]; exact (Ext.refl w1).alloc _
    clear h2 HG
    replace ra := ra.ext e2
    replace rb := rb.ext e2
    replace rc := rc.ext e2
    have E2 := E1.trans e2
    clear E1
    clear e2 ra rb rc
    go_wp2
    go_ret
    exact ⟨rfl, E2⟩

end Go.Proofs.Ytafmolljmceadaa
