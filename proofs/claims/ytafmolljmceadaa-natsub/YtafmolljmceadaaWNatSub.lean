/- The walk of the law NatSub. -/
import Derived.Test.YtafmolljmceadaaL2
namespace Go.Proofs.Ytafmolljmceadaa
open Go.RowKit

set_option maxRecDepth 100000 in
set_option maxHeartbeats 4000000 in
theorem walk_NatSub (w : World) (va : Value) (xa : List Int) (ra : Row w va xa) (vb : Value) (xb : List Int) (rb : Row w vb xb) : Calls Try.prog 5 #[va, vb] w (RetE w (.bool true)) := by
  obtain ⟨Aa, ca, rfl, _, _, _⟩ := id ra
  obtain ⟨Ab, cb, rfl, _, _, _⟩ := id rb
  cases hg : (badB xa || badB xb)
  · have HG := Lib.hid hg
    rw [Bool.or_eq_false_iff] at hg
    obtain ⟨ga, gb⟩ := hg
    obtain ⟨a, na, la, _, _⟩ := good_nat ra ga
    obtain ⟨b, nb, lb, _, _⟩ := good_nat rb gb
    clear ga gb
    rcases Nat.lt_trichotomy a b with h | h | h
    · skip
      go_enter Try.func5, Try.ntmps5
      go_wp2_with fail
      refine (head_any w).mono ?_
      rintro e w1 ⟨rfl, e1⟩
      replace ra := ra.ext e1
      replace rb := rb.ext e1
      replace na := na.ext e1
      replace nb := nb.ext e1
      have E1 := e1
      clear e1
      go_wp2_with fail
      refine (great2 w1 (.slice Aa xa.length ca) (.slice Ab xb.length cb) xa xb _ ra rb).mono ?_
      rw [HG.out]
      rintro e w2 ⟨rfl, h2⟩
      have e2 : Ext w1 w2 := by rw [← h2]; exact (Ext.refl w1).alloc _
      clear h2 HG
      replace ra := ra.ext e2
      replace rb := rb.ext e2
      replace na := na.ext e2
      replace nb := nb.ext e2
      have E2 := E1.trans e2
      clear E1
      clear e2 ra rb
      have ls := la.add lb
      go_wp2_with fail
      refine (add_any w2 _ _ a b na nb (la.mono (by omega)) (lb.mono (by omega))).mono ?_
      rintro e w3 ⟨v3, rfl, n3, e3⟩
      replace na := na.ext e3
      replace nb := nb.ext e3
      have E3 := E2.trans e3
      clear E2
      clear e3
      go_wp2_with fail
      refine (sub_yes w3 v3 _ (a + b) b n3 nb (ls.mono (by omega)) (by omega)).mono ?_
      rintro e w4 ⟨v4, rfl, n4, e4⟩
      rw [Nat.add_sub_cancel] at n4
      replace na := na.ext e4
      replace nb := nb.ext e4
      replace n3 := n3.ext e4
      have E4 := E3.trans e4
      clear E3
      clear e4
      clear n3
      go_wp2_with fail
      refine (sub_no w4 _ _ a b na nb h).mono ?_
      rintro e w5 ⟨v5, rfl, n5, e5⟩
      replace na := na.ext e5
      replace nb := nb.ext e5
      replace n4 := n4.ext e5
      have E5 := E4.trans e5
      clear E4
      clear e5
      go_wp2_with fail
      refine (cmp_lit w5 _ _ a b (-1) na nb (cmpI_lt (by omega))).mono ?_
      rintro e w6 ⟨rfl, q6⟩
      have e6 := q6.ext
      replace na := na.ext e6
      replace nb := nb.ext e6
      replace n4 := n4.ext e6
      replace n5 := n5.ext e6
      have E6 := E5.trans e6
      clear E5
      clear e6 q6
      go_wp2_with fail
      refine (same_eq w6 v4 _ a n4 na).mono ?_
      rintro e w7 ⟨rfl, q7⟩
      have e7 := q7.ext
      replace na := na.ext e7
      replace nb := nb.ext e7
      replace n4 := n4.ext e7
      replace n5 := n5.ext e7
      have E7 := E6.trans e7
      clear E6
      clear e7 q7
      obtain ⟨A9, c9, rfl, _⟩ := n5.form
      go_wp2_with fail
      refine (same_ne w7 _ _ a b na nb (by omega)).mono ?_
      rintro e w8 ⟨rfl, q8⟩
      have e8 := q8.ext
      replace na := na.ext e8
      replace nb := nb.ext e8
      replace n4 := n4.ext e8
      replace n5 := n5.ext e8
      have E8 := E7.trans e8
      clear E7
      clear e8 q8
      go_wp2_with fail
      refine (cmp_lit w8 _ _ b a (1) nb na (cmpI_gt (by omega))).mono ?_
      rintro e w9 ⟨rfl, q9⟩
      have e9 := q9.ext
      replace na := na.ext e9
      replace nb := nb.ext e9
      replace n4 := n4.ext e9
      replace n5 := n5.ext e9
      have E9 := E8.trans e9
      clear E8
      clear e9 q9
      go_wp2
      go_ret
      exact ⟨rfl, E9⟩
    · skip
      go_enter Try.func5, Try.ntmps5
      go_wp2_with fail
      refine (head_any w).mono ?_
      rintro e w1 ⟨rfl, e1⟩
      replace ra := ra.ext e1
      replace rb := rb.ext e1
      replace na := na.ext e1
      replace nb := nb.ext e1
      have E1 := e1
      clear e1
      go_wp2_with fail
      refine (great2 w1 (.slice Aa xa.length ca) (.slice Ab xb.length cb) xa xb _ ra rb).mono ?_
      rw [HG.out]
      rintro e w2 ⟨rfl, h2⟩
      have e2 : Ext w1 w2 := by rw [← h2]; exact (Ext.refl w1).alloc _
      clear h2 HG
      replace ra := ra.ext e2
      replace rb := rb.ext e2
      replace na := na.ext e2
      replace nb := nb.ext e2
      have E2 := E1.trans e2
      clear E1
      clear e2 ra rb
      have ls := la.add lb
      go_wp2_with fail
      refine (add_any w2 _ _ a b na nb (la.mono (by omega)) (lb.mono (by omega))).mono ?_
      rintro e w3 ⟨v3, rfl, n3, e3⟩
      replace na := na.ext e3
      replace nb := nb.ext e3
      have E3 := E2.trans e3
      clear E2
      clear e3
      go_wp2_with fail
      refine (sub_yes w3 v3 _ (a + b) b n3 nb (ls.mono (by omega)) (by omega)).mono ?_
      rintro e w4 ⟨v4, rfl, n4, e4⟩
      rw [Nat.add_sub_cancel] at n4
      replace na := na.ext e4
      replace nb := nb.ext e4
      replace n3 := n3.ext e4
      have E4 := E3.trans e4
      clear E3
      clear e4
      clear n3
      go_wp2_with fail
      refine (sub_yes w4 _ _ a b na nb (la.mono (by omega)) (by omega)).mono ?_
      rintro e w5 ⟨v5, rfl, n5, e5⟩
      replace na := na.ext e5
      replace nb := nb.ext e5
      replace n4 := n4.ext e5
      have E5 := E4.trans e5
      clear E4
      clear e5
      go_wp2_with fail
      refine (cmp_lit w5 _ _ a b (0) na nb (cmpI_eq (by omega))).mono ?_
      rintro e w6 ⟨rfl, q6⟩
      have e6 := q6.ext
      replace na := na.ext e6
      replace nb := nb.ext e6
      replace n4 := n4.ext e6
      replace n5 := n5.ext e6
      have E6 := E5.trans e6
      clear E5
      clear e6 q6
      go_wp2_with fail
      refine (same_eq w6 v4 _ a n4 na).mono ?_
      rintro e w7 ⟨rfl, q7⟩
      have e7 := q7.ext
      replace na := na.ext e7
      replace nb := nb.ext e7
      replace n4 := n4.ext e7
      replace n5 := n5.ext e7
      have E7 := E6.trans e7
      clear E6
      clear e7 q7
      go_wp2_with fail
      refine (same_eq w7 _ _ a na (by rw [h]; exact nb)).mono ?_
      rintro e w8 ⟨rfl, q8⟩
      have e8 := q8.ext
      replace na := na.ext e8
      replace nb := nb.ext e8
      replace n4 := n4.ext e8
      replace n5 := n5.ext e8
      have E8 := E7.trans e8
      clear E7
      clear e8 q8
      go_wp2_with fail
      refine (cmp_lit w8 _ _ b a (0) nb na (cmpI_eq (by omega))).mono ?_
      rintro e w9 ⟨rfl, q9⟩
      have e9 := q9.ext
      replace na := na.ext e9
      replace nb := nb.ext e9
      replace n4 := n4.ext e9
      replace n5 := n5.ext e9
      have E9 := E8.trans e9
      clear E8
      clear e9 q9
      go_wp2_with fail
      refine (rright_nat w9 v5 (a - b) n5 ((la.of_le (Nat.sub_le _ _)).mono (by omega))).mono ?_
      rintro e w' ⟨rfl, rfl⟩
      go_wp2_with fail
      refine (add_any w9 v5 _ (a - b) b n5 nb ((la.of_le (Nat.sub_le _ _)).mono (by omega)) (lb.mono (by omega))).mono ?_
      rintro e w10 ⟨v10, rfl, n10, e10⟩
      rw [Nat.sub_add_cancel (show b ≤ a by omega)] at n10
      replace na := na.ext e10
      replace nb := nb.ext e10
      replace n4 := n4.ext e10
      replace n5 := n5.ext e10
      have E10 := E9.trans e10
      clear E9
      clear e10
      go_wp2_with fail
      refine (same_eq w10 v10 _ a n10 na).mono ?_
      rintro e w11 ⟨rfl, q11⟩
      have e11 := q11.ext
      replace na := na.ext e11
      replace nb := nb.ext e11
      replace n4 := n4.ext e11
      replace n5 := n5.ext e11
      replace n10 := n10.ext e11
      have E11 := E10.trans e11
      clear E10
      clear e11 q11
      go_wp2
      go_ret
      exact ⟨rfl, E11⟩
    · skip
      go_enter Try.func5, Try.ntmps5
      go_wp2_with fail
      refine (head_any w).mono ?_
      rintro e w1 ⟨rfl, e1⟩
      replace ra := ra.ext e1
      replace rb := rb.ext e1
      replace na := na.ext e1
      replace nb := nb.ext e1
      have E1 := e1
      clear e1
      go_wp2_with fail
      refine (great2 w1 (.slice Aa xa.length ca) (.slice Ab xb.length cb) xa xb _ ra rb).mono ?_
      rw [HG.out]
      rintro e w2 ⟨rfl, h2⟩
      have e2 : Ext w1 w2 := by rw [← h2]; exact (Ext.refl w1).alloc _
      clear h2 HG
      replace ra := ra.ext e2
      replace rb := rb.ext e2
      replace na := na.ext e2
      replace nb := nb.ext e2
      have E2 := E1.trans e2
      clear E1
      clear e2 ra rb
      have ls := la.add lb
      go_wp2_with fail
      refine (add_any w2 _ _ a b na nb (la.mono (by omega)) (lb.mono (by omega))).mono ?_
      rintro e w3 ⟨v3, rfl, n3, e3⟩
      replace na := na.ext e3
      replace nb := nb.ext e3
      have E3 := E2.trans e3
      clear E2
      clear e3
      go_wp2_with fail
      refine (sub_yes w3 v3 _ (a + b) b n3 nb (ls.mono (by omega)) (by omega)).mono ?_
      rintro e w4 ⟨v4, rfl, n4, e4⟩
      rw [Nat.add_sub_cancel] at n4
      replace na := na.ext e4
      replace nb := nb.ext e4
      replace n3 := n3.ext e4
      have E4 := E3.trans e4
      clear E3
      clear e4
      clear n3
      go_wp2_with fail
      refine (sub_yes w4 _ _ a b na nb (la.mono (by omega)) (by omega)).mono ?_
      rintro e w5 ⟨v5, rfl, n5, e5⟩
      replace na := na.ext e5
      replace nb := nb.ext e5
      replace n4 := n4.ext e5
      have E5 := E4.trans e5
      clear E4
      clear e5
      go_wp2_with fail
      refine (cmp_lit w5 _ _ a b (1) na nb (cmpI_gt (by omega))).mono ?_
      rintro e w6 ⟨rfl, q6⟩
      have e6 := q6.ext
      replace na := na.ext e6
      replace nb := nb.ext e6
      replace n4 := n4.ext e6
      replace n5 := n5.ext e6
      have E6 := E5.trans e6
      clear E5
      clear e6 q6
      go_wp2_with fail
      refine (same_eq w6 v4 _ a n4 na).mono ?_
      rintro e w7 ⟨rfl, q7⟩
      have e7 := q7.ext
      replace na := na.ext e7
      replace nb := nb.ext e7
      replace n4 := n4.ext e7
      replace n5 := n5.ext e7
      have E7 := E6.trans e7
      clear E6
      clear e7 q7
      go_wp2_with fail
      refine (same_ne w7 _ _ a b na nb (by omega)).mono ?_
      rintro e w8 ⟨rfl, q8⟩
      have e8 := q8.ext
      replace na := na.ext e8
      replace nb := nb.ext e8
      replace n4 := n4.ext e8
      replace n5 := n5.ext e8
      have E8 := E7.trans e8
      clear E7
      clear e8 q8
      go_wp2_with fail
      refine (cmp_lit w8 _ _ b a (-1) nb na (cmpI_lt (by omega))).mono ?_
      rintro e w9 ⟨rfl, q9⟩
      have e9 := q9.ext
      replace na := na.ext e9
      replace nb := nb.ext e9
      replace n4 := n4.ext e9
      replace n5 := n5.ext e9
      have E9 := E8.trans e9
      clear E8
      clear e9 q9
      go_wp2_with fail
      refine (rright_nat w9 v5 (a - b) n5 ((la.of_le (Nat.sub_le _ _)).mono (by omega))).mono ?_
      rintro e w' ⟨rfl, rfl⟩
      go_wp2_with fail
      refine (add_any w9 v5 _ (a - b) b n5 nb ((la.of_le (Nat.sub_le _ _)).mono (by omega)) (lb.mono (by omega))).mono ?_
      rintro e w10 ⟨v10, rfl, n10, e10⟩
      rw [Nat.sub_add_cancel (show b ≤ a by omega)] at n10
      replace na := na.ext e10
      replace nb := nb.ext e10
      replace n4 := n4.ext e10
      replace n5 := n5.ext e10
      have E10 := E9.trans e10
      clear E9
      clear e10
      go_wp2_with fail
      refine (same_eq w10 v10 _ a n10 na).mono ?_
      rintro e w11 ⟨rfl, q11⟩
      have e11 := q11.ext
      replace na := na.ext e11
      replace nb := nb.ext e11
      replace n4 := n4.ext e11
      replace n5 := n5.ext e11
      replace n10 := n10.ext e11
      have E11 := E10.trans e11
      clear E10
      clear e11 q11
      go_wp2
      go_ret
      exact ⟨rfl, E11⟩
  · have HG := Lib.hid hg
    clear hg
    go_enter Try.func5, Try.ntmps5
    go_wp2_with fail
    refine (head_any w).mono ?_
    rintro e w1 ⟨rfl, e1⟩
    replace ra := ra.ext e1
    replace rb := rb.ext e1
    have E1 := e1
    clear e1
    go_wp2_with fail
    refine (great2 w1 (.slice Aa xa.length ca) (.slice Ab xb.length cb) xa xb _ ra rb).mono ?_
    rw [HG.out]
    rintro e w2 ⟨rfl, h2⟩
    have e2 : Ext w1 w2 := by rw [← h2]; exact (Ext.refl w1).alloc _
    clear h2 HG
    replace ra := ra.ext e2
    replace rb := rb.ext e2
    have E2 := E1.trans e2
    clear E1
    clear e2 ra rb
    go_wp2
    go_ret
    exact ⟨rfl, E2⟩

end Go.Proofs.Ytafmolljmceadaa
