/- The walk of DyaInts. -/
import Derived.Test.YtjnnodbejnmkmaaDoorG2
namespace Go.Proofs.YtjnnodbejnmkmaaDoor
open Go.RowKit

theorem of_is (w : World) (n z : Int) (h : n = z) (hz : -4611686018427387904 ≤ z ∧ z ≤ 4611686018427387904) (T : Tb w) : Calls Tryd.prog 28 #[.int .i64 n] w (RetD w (dy z 0)) := by
  subst h; exact ofD_any w n hz T
theorem rg_int (z : Int) (h : -4611686018427387904 ≤ z ∧ z ≤ 4611686018427387904) : Rg 0 63 (dy z 0) := Rg.int (by constructor <;> (show _; omega))

set_option maxRecDepth 100000 in
set_option maxHeartbeats 4000000 in
theorem ints_in (w : World) (m n : Int) (hm : -1073741824 ≤ m ∧ m ≤ 1073741824) (hn : -1073741824 ≤ n ∧ n ≤ 1073741824) (T : Tb w) (c : Int) (hc : cmpI m n = c) (hcc : (m < n ∧ c = -1) ∨ (m = n ∧ c = 0) ∨ (n < m ∧ c = 1)) :
    Calls Tryd.prog 8 #[.int .i64 m, .int .i64 n] w (RetE w (.bool true)) := by
  have hp : -1152921504606846976 ≤ m * n ∧ m * n ≤ 1152921504606846976 := by
    have h1 : m.natAbs ≤ 1073741824 := by omega
    have h2 : n.natAbs ≤ 1073741824 := by omega
    have h3 : (m * n).natAbs = m.natAbs * n.natAbs := Int.natAbs_mul m n
    have h4 := Nat.mul_le_mul h1 h2
    omega
  obtain ⟨p, hpq⟩ : ∃ p, p = m * n := ⟨_, rfl⟩
  rw [← hpq] at hp
  have hwm : IntKind.i64.wrap (m * n) = p := by rw [← hpq]; exact IntWalk.i64_in _ (by omega)
  have hwm2 : wrap64 (m * n) = p := by rw [← hpq]; unfold wrap64; omega
  have rm := rg_int m (by omega)
  have rn := rg_int n (by omega)
  have q1 : dy m 0 + dy n 0 = dy (m + n) 0 := dy_add _ _ _
  have q2 : dy m 0 * dy n 0 = dy p 0 := by rw [hpq]; exact dy_mul _ _ _ _
  have q3 : cmpD (dy m 0) (dy n 0) = c := by rw [cmpD_dy]; exact hc
  have q4 : - dy m 0 = dy (-m) 0 := dy_neg _ _
  have HQ := Lib.hid (And.intro q1 (And.intro q2 (And.intro q3 q4)))
  clear q1 q2 q3 q4 hc hpq
  rcases hcc with ⟨h1, rfl⟩ | ⟨rfl, rfl⟩ | ⟨h1, rfl⟩
  · skip
    go_enter Tryd.func8, Tryd.ntmps8
    go_wp2_with fail
    refine (headD_any _ T).mono ?_
    rintro _ w1 ⟨rfl, e1⟩
    replace T := T.ext e1
    have E1 := e1
    clear e1
    go_wp2_with fail
    refine (of_is _ _ m (by omega) (by omega) T).mono ?_
    rintro _ w2 ⟨v2, rfl, n2, e2⟩
    replace T := T.ext e2
    have E2 := E1.trans e2
    clear E1
    clear e2
    obtain ⟨b2, A2, l2, c2, i2, rfl⟩ := n2.form
    have Ba : Box (w2.alloc (.cells #[.bool b2, .slice A2 l2 c2, .int .i64 i2] 24)) w2.heap.size (.bool b2) (.slice A2 l2 c2) (.int .i64 i2) := Box.at (Ext.refl _) rfl
    go_wp2_with fail
    refine (of_is _ _ n (by omega) (by omega) (T.ext ((Ext.refl _).alloc _))).mono ?_
    rintro _ w3 ⟨v3, rfl, n3, f3⟩
    replace Ba := Ba.ext f3
    have e3 : Ext w2 w3 := ((Ext.refl _).alloc _).trans f3
    clear f3
    replace T := T.ext e3
    replace n2 := n2.ext e3
    have E3 := E2.trans e3
    clear E2
    clear e3
    obtain ⟨b3, A3, l3, c3, i3, rfl⟩ := n3.form
    have f0 : Ext w3 (w3.alloc (.cells #[.bool b3, .slice A3 l3 c3, .int .i64 i3] 24)) := (Ext.refl _).alloc _
    have Bb : Box (w3.alloc (.cells #[.bool b3, .slice A3 l3 c3, .int .i64 i3] 24)) w3.heap.size (.bool b3) (.slice A3 l3 c3) (.int .i64 i3) := Box.at (Ext.refl _) rfl
    replace T := T.ext f0
    replace n2 := n2.ext f0
    replace n3 := n3.ext f0
    replace Ba := Ba.ext f0
    replace E3 := E3.trans f0
    clear f0
    obtain ⟨Ba_0, Ba_1, Ba_2⟩ := id Ba
    obtain ⟨Bb_0, Bb_1, Bb_2⟩ := id Bb
    go_wp2_with fail
    refine (rrightDn_any _ _ (dy m 0) 0 63 n2 rm (by omega)).mono ?_
    rintro _ w4 ⟨rfl, e4⟩
    clear Ba_0 Ba_1 Ba_2 Bb_0 Bb_1 Bb_2
    replace T := T.ext e4
    replace n2 := n2.ext e4
    replace n3 := n3.ext e4
    replace Ba := Ba.ext e4
    replace Bb := Bb.ext e4
    have E4 := E3.trans e4
    clear E3
    clear e4
    obtain ⟨Ba_0, Ba_1, Ba_2⟩ := id Ba
    obtain ⟨Bb_0, Bb_1, Bb_2⟩ := id Bb
    go_wp2_with fail
    refine (add_lit _ _ _ (dy m 0) (dy n 0) (dy (m + n) 0) 0 63 HQ.out.1 n2 n3 rm rn (by omega) T).mono ?_
    rintro _ w5 ⟨v5, rfl, n5, e5⟩
    clear Ba_0 Ba_1 Ba_2 Bb_0 Bb_1 Bb_2
    replace T := T.ext e5
    replace n2 := n2.ext e5
    replace n3 := n3.ext e5
    replace Ba := Ba.ext e5
    replace Bb := Bb.ext e5
    have E5 := E4.trans e5
    clear E4
    clear e5
    obtain ⟨Ba_0, Ba_1, Ba_2⟩ := id Ba
    obtain ⟨Bb_0, Bb_1, Bb_2⟩ := id Bb
    go_wp2_with fail
    refine (of_is _ _ (m + n) (by omega) (by omega) T).mono ?_
    rintro _ w6 ⟨v6, rfl, n6, e6⟩
    clear Ba_0 Ba_1 Ba_2 Bb_0 Bb_1 Bb_2
    replace T := T.ext e6
    replace n2 := n2.ext e6
    replace n3 := n3.ext e6
    replace n5 := n5.ext e6
    replace Ba := Ba.ext e6
    replace Bb := Bb.ext e6
    have E6 := E5.trans e6
    clear E5
    clear e6
    obtain ⟨Ba_0, Ba_1, Ba_2⟩ := id Ba
    obtain ⟨Bb_0, Bb_1, Bb_2⟩ := id Bb
    go_wp2_with fail
    refine (rsameD_eq _ _ _ (dy (m + n) 0) n5 n6).mono ?_
    rintro _ w7 ⟨rfl, e7⟩
    clear Ba_0 Ba_1 Ba_2 Bb_0 Bb_1 Bb_2
    replace T := T.ext e7
    replace n2 := n2.ext e7
    replace n3 := n3.ext e7
    replace n5 := n5.ext e7
    replace n6 := n6.ext e7
    replace Ba := Ba.ext e7
    replace Bb := Bb.ext e7
    have E7 := E6.trans e7
    clear E6
    clear e7
    obtain ⟨Ba_0, Ba_1, Ba_2⟩ := id Ba
    obtain ⟨Bb_0, Bb_1, Bb_2⟩ := id Bb
    clear n5 n6
    go_wp2_with fail
    refine (mul_lit _ _ _ (dy m 0) (dy n 0) (dy p 0) 0 63 0 63 HQ.out.2.1 n2 n3 rm rn (by omega) (by omega) T).mono ?_
    rintro _ w8 ⟨v8, rfl, n8, e8⟩
    clear Ba_0 Ba_1 Ba_2 Bb_0 Bb_1 Bb_2
    replace T := T.ext e8
    replace n2 := n2.ext e8
    replace n3 := n3.ext e8
    replace Ba := Ba.ext e8
    replace Bb := Bb.ext e8
    have E8 := E7.trans e8
    clear E7
    clear e8
    obtain ⟨Ba_0, Ba_1, Ba_2⟩ := id Ba
    obtain ⟨Bb_0, Bb_1, Bb_2⟩ := id Bb
    go_wp2_with fail
    refine (of_is _ _ p (by first | rfl | exact hwm | exact hwm2) (by omega) T).mono ?_
    rintro _ w9 ⟨v9, rfl, n9, e9⟩
    clear Ba_0 Ba_1 Ba_2 Bb_0 Bb_1 Bb_2
    replace T := T.ext e9
    replace n2 := n2.ext e9
    replace n3 := n3.ext e9
    replace n8 := n8.ext e9
    replace Ba := Ba.ext e9
    replace Bb := Bb.ext e9
    have E9 := E8.trans e9
    clear E8
    clear e9
    obtain ⟨Ba_0, Ba_1, Ba_2⟩ := id Ba
    obtain ⟨Bb_0, Bb_1, Bb_2⟩ := id Bb
    go_wp2_with fail
    refine (rsameD_eq _ _ _ (dy p 0) n8 n9).mono ?_
    rintro _ w10 ⟨rfl, e10⟩
    clear Ba_0 Ba_1 Ba_2 Bb_0 Bb_1 Bb_2
    replace T := T.ext e10
    replace n2 := n2.ext e10
    replace n3 := n3.ext e10
    replace n8 := n8.ext e10
    replace n9 := n9.ext e10
    replace Ba := Ba.ext e10
    replace Bb := Bb.ext e10
    have E10 := E9.trans e10
    clear E9
    clear e10
    obtain ⟨Ba_0, Ba_1, Ba_2⟩ := id Ba
    obtain ⟨Bb_0, Bb_1, Bb_2⟩ := id Bb
    clear n8 n9
    go_wp2_with fail
    refine (cmp_lit _ _ _ (dy m 0) (dy n 0) 0 63 0 63 _ HQ.out.2.2.1 n2 n3 rm rn (by omega) (by omega)).mono ?_
    rintro _ w11 ⟨rfl, e11⟩
    clear Ba_0 Ba_1 Ba_2 Bb_0 Bb_1 Bb_2
    replace T := T.ext e11
    replace n2 := n2.ext e11
    replace n3 := n3.ext e11
    replace Ba := Ba.ext e11
    replace Bb := Bb.ext e11
    have E11 := E10.trans e11
    clear E10
    clear e11
    obtain ⟨Ba_0, Ba_1, Ba_2⟩ := id Ba
    obtain ⟨Bb_0, Bb_1, Bb_2⟩ := id Bb
    go_wp2_with fail
    refine (flip_lit _ _ (dy m 0) (dy (-m) 0) 0 63 HQ.out.2.2.2 n2 rm (by omega) T).mono ?_
    rintro _ w12 ⟨v12, rfl, n12, e12⟩
    clear Ba_0 Ba_1 Ba_2 Bb_0 Bb_1 Bb_2
    replace T := T.ext e12
    replace n2 := n2.ext e12
    replace n3 := n3.ext e12
    replace Ba := Ba.ext e12
    replace Bb := Bb.ext e12
    have E12 := E11.trans e12
    clear E11
    clear e12
    obtain ⟨Ba_0, Ba_1, Ba_2⟩ := id Ba
    obtain ⟨Bb_0, Bb_1, Bb_2⟩ := id Bb
    go_wp2_with fail
    refine (of_is _ _ (-m) (by omega) (by omega) T).mono ?_
    rintro _ w13 ⟨v13, rfl, n13, e13⟩
    clear Ba_0 Ba_1 Ba_2 Bb_0 Bb_1 Bb_2
    replace T := T.ext e13
    replace n2 := n2.ext e13
    replace n3 := n3.ext e13
    replace n12 := n12.ext e13
    replace Ba := Ba.ext e13
    replace Bb := Bb.ext e13
    have E13 := E12.trans e13
    clear E12
    clear e13
    obtain ⟨Ba_0, Ba_1, Ba_2⟩ := id Ba
    obtain ⟨Bb_0, Bb_1, Bb_2⟩ := id Bb
    go_wp2_with fail
    refine (rsameD_eq _ _ _ (dy (-m) 0) n12 n13).mono ?_
    rintro _ w14 ⟨rfl, e14⟩
    clear Ba_0 Ba_1 Ba_2 Bb_0 Bb_1 Bb_2
    replace T := T.ext e14
    replace n2 := n2.ext e14
    replace n3 := n3.ext e14
    replace n12 := n12.ext e14
    replace n13 := n13.ext e14
    replace Ba := Ba.ext e14
    replace Bb := Bb.ext e14
    have E14 := E13.trans e14
    clear E13
    clear e14
    obtain ⟨Ba_0, Ba_1, Ba_2⟩ := id Ba
    obtain ⟨Bb_0, Bb_1, Bb_2⟩ := id Bb
    clear n12 n13
    go_wp2
    go_ret
    exact ⟨rfl, E14⟩
  · skip
    go_enter Tryd.func8, Tryd.ntmps8
    go_wp2_with fail
    refine (headD_any _ T).mono ?_
    rintro _ w1 ⟨rfl, e1⟩
    replace T := T.ext e1
    have E1 := e1
    clear e1
    go_wp2_with fail
    refine (of_is _ _ m (by omega) (by omega) T).mono ?_
    rintro _ w2 ⟨v2, rfl, n2, e2⟩
    replace T := T.ext e2
    have E2 := E1.trans e2
    clear E1
    clear e2
    obtain ⟨b2, A2, l2, c2, i2, rfl⟩ := n2.form
    have Ba : Box (w2.alloc (.cells #[.bool b2, .slice A2 l2 c2, .int .i64 i2] 24)) w2.heap.size (.bool b2) (.slice A2 l2 c2) (.int .i64 i2) := Box.at (Ext.refl _) rfl
    go_wp2_with fail
    refine (of_is _ _ m (by omega) (by omega) (T.ext ((Ext.refl _).alloc _))).mono ?_
    rintro _ w3 ⟨v3, rfl, n3, f3⟩
    replace Ba := Ba.ext f3
    have e3 : Ext w2 w3 := ((Ext.refl _).alloc _).trans f3
    clear f3
    replace T := T.ext e3
    replace n2 := n2.ext e3
    have E3 := E2.trans e3
    clear E2
    clear e3
    obtain ⟨b3, A3, l3, c3, i3, rfl⟩ := n3.form
    have f0 : Ext w3 (w3.alloc (.cells #[.bool b3, .slice A3 l3 c3, .int .i64 i3] 24)) := (Ext.refl _).alloc _
    have Bb : Box (w3.alloc (.cells #[.bool b3, .slice A3 l3 c3, .int .i64 i3] 24)) w3.heap.size (.bool b3) (.slice A3 l3 c3) (.int .i64 i3) := Box.at (Ext.refl _) rfl
    replace T := T.ext f0
    replace n2 := n2.ext f0
    replace n3 := n3.ext f0
    replace Ba := Ba.ext f0
    replace E3 := E3.trans f0
    clear f0
    obtain ⟨Ba_0, Ba_1, Ba_2⟩ := id Ba
    obtain ⟨Bb_0, Bb_1, Bb_2⟩ := id Bb
    go_wp2_with fail
    refine (rrightDn_any _ _ (dy m 0) 0 63 n2 rm (by omega)).mono ?_
    rintro _ w4 ⟨rfl, e4⟩
    clear Ba_0 Ba_1 Ba_2 Bb_0 Bb_1 Bb_2
    replace T := T.ext e4
    replace n2 := n2.ext e4
    replace n3 := n3.ext e4
    replace Ba := Ba.ext e4
    replace Bb := Bb.ext e4
    have E4 := E3.trans e4
    clear E3
    clear e4
    obtain ⟨Ba_0, Ba_1, Ba_2⟩ := id Ba
    obtain ⟨Bb_0, Bb_1, Bb_2⟩ := id Bb
    go_wp2_with fail
    refine (add_lit _ _ _ (dy m 0) (dy m 0) (dy (m + m) 0) 0 63 HQ.out.1 n2 n3 rm rm (by omega) T).mono ?_
    rintro _ w5 ⟨v5, rfl, n5, e5⟩
    clear Ba_0 Ba_1 Ba_2 Bb_0 Bb_1 Bb_2
    replace T := T.ext e5
    replace n2 := n2.ext e5
    replace n3 := n3.ext e5
    replace Ba := Ba.ext e5
    replace Bb := Bb.ext e5
    have E5 := E4.trans e5
    clear E4
    clear e5
    obtain ⟨Ba_0, Ba_1, Ba_2⟩ := id Ba
    obtain ⟨Bb_0, Bb_1, Bb_2⟩ := id Bb
    go_wp2_with fail
    refine (of_is _ _ (m + m) (by omega) (by omega) T).mono ?_
    rintro _ w6 ⟨v6, rfl, n6, e6⟩
    clear Ba_0 Ba_1 Ba_2 Bb_0 Bb_1 Bb_2
    replace T := T.ext e6
    replace n2 := n2.ext e6
    replace n3 := n3.ext e6
    replace n5 := n5.ext e6
    replace Ba := Ba.ext e6
    replace Bb := Bb.ext e6
    have E6 := E5.trans e6
    clear E5
    clear e6
    obtain ⟨Ba_0, Ba_1, Ba_2⟩ := id Ba
    obtain ⟨Bb_0, Bb_1, Bb_2⟩ := id Bb
    go_wp2_with fail
    refine (rsameD_eq _ _ _ (dy (m + m) 0) n5 n6).mono ?_
    rintro _ w7 ⟨rfl, e7⟩
    clear Ba_0 Ba_1 Ba_2 Bb_0 Bb_1 Bb_2
    replace T := T.ext e7
    replace n2 := n2.ext e7
    replace n3 := n3.ext e7
    replace n5 := n5.ext e7
    replace n6 := n6.ext e7
    replace Ba := Ba.ext e7
    replace Bb := Bb.ext e7
    have E7 := E6.trans e7
    clear E6
    clear e7
    obtain ⟨Ba_0, Ba_1, Ba_2⟩ := id Ba
    obtain ⟨Bb_0, Bb_1, Bb_2⟩ := id Bb
    clear n5 n6
    go_wp2_with fail
    refine (mul_lit _ _ _ (dy m 0) (dy m 0) (dy p 0) 0 63 0 63 HQ.out.2.1 n2 n3 rm rm (by omega) (by omega) T).mono ?_
    rintro _ w8 ⟨v8, rfl, n8, e8⟩
    clear Ba_0 Ba_1 Ba_2 Bb_0 Bb_1 Bb_2
    replace T := T.ext e8
    replace n2 := n2.ext e8
    replace n3 := n3.ext e8
    replace Ba := Ba.ext e8
    replace Bb := Bb.ext e8
    have E8 := E7.trans e8
    clear E7
    clear e8
    obtain ⟨Ba_0, Ba_1, Ba_2⟩ := id Ba
    obtain ⟨Bb_0, Bb_1, Bb_2⟩ := id Bb
    go_wp2_with fail
    refine (of_is _ _ p (by first | rfl | exact hwm | exact hwm2) (by omega) T).mono ?_
    rintro _ w9 ⟨v9, rfl, n9, e9⟩
    clear Ba_0 Ba_1 Ba_2 Bb_0 Bb_1 Bb_2
    replace T := T.ext e9
    replace n2 := n2.ext e9
    replace n3 := n3.ext e9
    replace n8 := n8.ext e9
    replace Ba := Ba.ext e9
    replace Bb := Bb.ext e9
    have E9 := E8.trans e9
    clear E8
    clear e9
    obtain ⟨Ba_0, Ba_1, Ba_2⟩ := id Ba
    obtain ⟨Bb_0, Bb_1, Bb_2⟩ := id Bb
    go_wp2_with fail
    refine (rsameD_eq _ _ _ (dy p 0) n8 n9).mono ?_
    rintro _ w10 ⟨rfl, e10⟩
    clear Ba_0 Ba_1 Ba_2 Bb_0 Bb_1 Bb_2
    replace T := T.ext e10
    replace n2 := n2.ext e10
    replace n3 := n3.ext e10
    replace n8 := n8.ext e10
    replace n9 := n9.ext e10
    replace Ba := Ba.ext e10
    replace Bb := Bb.ext e10
    have E10 := E9.trans e10
    clear E9
    clear e10
    obtain ⟨Ba_0, Ba_1, Ba_2⟩ := id Ba
    obtain ⟨Bb_0, Bb_1, Bb_2⟩ := id Bb
    clear n8 n9
    go_wp2_with fail
    refine (cmp_lit _ _ _ (dy m 0) (dy m 0) 0 63 0 63 _ HQ.out.2.2.1 n2 n3 rm rm (by omega) (by omega)).mono ?_
    rintro _ w11 ⟨rfl, e11⟩
    clear Ba_0 Ba_1 Ba_2 Bb_0 Bb_1 Bb_2
    replace T := T.ext e11
    replace n2 := n2.ext e11
    replace n3 := n3.ext e11
    replace Ba := Ba.ext e11
    replace Bb := Bb.ext e11
    have E11 := E10.trans e11
    clear E10
    clear e11
    obtain ⟨Ba_0, Ba_1, Ba_2⟩ := id Ba
    obtain ⟨Bb_0, Bb_1, Bb_2⟩ := id Bb
    go_wp2_with fail
    refine (flip_lit _ _ (dy m 0) (dy (-m) 0) 0 63 HQ.out.2.2.2 n2 rm (by omega) T).mono ?_
    rintro _ w12 ⟨v12, rfl, n12, e12⟩
    clear Ba_0 Ba_1 Ba_2 Bb_0 Bb_1 Bb_2
    replace T := T.ext e12
    replace n2 := n2.ext e12
    replace n3 := n3.ext e12
    replace Ba := Ba.ext e12
    replace Bb := Bb.ext e12
    have E12 := E11.trans e12
    clear E11
    clear e12
    obtain ⟨Ba_0, Ba_1, Ba_2⟩ := id Ba
    obtain ⟨Bb_0, Bb_1, Bb_2⟩ := id Bb
    go_wp2_with fail
    refine (of_is _ _ (-m) (by omega) (by omega) T).mono ?_
    rintro _ w13 ⟨v13, rfl, n13, e13⟩
    clear Ba_0 Ba_1 Ba_2 Bb_0 Bb_1 Bb_2
    replace T := T.ext e13
    replace n2 := n2.ext e13
    replace n3 := n3.ext e13
    replace n12 := n12.ext e13
    replace Ba := Ba.ext e13
    replace Bb := Bb.ext e13
    have E13 := E12.trans e13
    clear E12
    clear e13
    obtain ⟨Ba_0, Ba_1, Ba_2⟩ := id Ba
    obtain ⟨Bb_0, Bb_1, Bb_2⟩ := id Bb
    go_wp2_with fail
    refine (rsameD_eq _ _ _ (dy (-m) 0) n12 n13).mono ?_
    rintro _ w14 ⟨rfl, e14⟩
    clear Ba_0 Ba_1 Ba_2 Bb_0 Bb_1 Bb_2
    replace T := T.ext e14
    replace n2 := n2.ext e14
    replace n3 := n3.ext e14
    replace n12 := n12.ext e14
    replace n13 := n13.ext e14
    replace Ba := Ba.ext e14
    replace Bb := Bb.ext e14
    have E14 := E13.trans e14
    clear E13
    clear e14
    obtain ⟨Ba_0, Ba_1, Ba_2⟩ := id Ba
    obtain ⟨Bb_0, Bb_1, Bb_2⟩ := id Bb
    clear n12 n13
    go_wp2
    go_ret
    exact ⟨rfl, E14⟩
  · skip
    go_enter Tryd.func8, Tryd.ntmps8
    go_wp2_with fail
    refine (headD_any _ T).mono ?_
    rintro _ w1 ⟨rfl, e1⟩
    replace T := T.ext e1
    have E1 := e1
    clear e1
    go_wp2_with fail
    refine (of_is _ _ m (by omega) (by omega) T).mono ?_
    rintro _ w2 ⟨v2, rfl, n2, e2⟩
    replace T := T.ext e2
    have E2 := E1.trans e2
    clear E1
    clear e2
    obtain ⟨b2, A2, l2, c2, i2, rfl⟩ := n2.form
    have Ba : Box (w2.alloc (.cells #[.bool b2, .slice A2 l2 c2, .int .i64 i2] 24)) w2.heap.size (.bool b2) (.slice A2 l2 c2) (.int .i64 i2) := Box.at (Ext.refl _) rfl
    go_wp2_with fail
    refine (of_is _ _ n (by omega) (by omega) (T.ext ((Ext.refl _).alloc _))).mono ?_
    rintro _ w3 ⟨v3, rfl, n3, f3⟩
    replace Ba := Ba.ext f3
    have e3 : Ext w2 w3 := ((Ext.refl _).alloc _).trans f3
    clear f3
    replace T := T.ext e3
    replace n2 := n2.ext e3
    have E3 := E2.trans e3
    clear E2
    clear e3
    obtain ⟨b3, A3, l3, c3, i3, rfl⟩ := n3.form
    have f0 : Ext w3 (w3.alloc (.cells #[.bool b3, .slice A3 l3 c3, .int .i64 i3] 24)) := (Ext.refl _).alloc _
    have Bb : Box (w3.alloc (.cells #[.bool b3, .slice A3 l3 c3, .int .i64 i3] 24)) w3.heap.size (.bool b3) (.slice A3 l3 c3) (.int .i64 i3) := Box.at (Ext.refl _) rfl
    replace T := T.ext f0
    replace n2 := n2.ext f0
    replace n3 := n3.ext f0
    replace Ba := Ba.ext f0
    replace E3 := E3.trans f0
    clear f0
    obtain ⟨Ba_0, Ba_1, Ba_2⟩ := id Ba
    obtain ⟨Bb_0, Bb_1, Bb_2⟩ := id Bb
    go_wp2_with fail
    refine (rrightDn_any _ _ (dy m 0) 0 63 n2 rm (by omega)).mono ?_
    rintro _ w4 ⟨rfl, e4⟩
    clear Ba_0 Ba_1 Ba_2 Bb_0 Bb_1 Bb_2
    replace T := T.ext e4
    replace n2 := n2.ext e4
    replace n3 := n3.ext e4
    replace Ba := Ba.ext e4
    replace Bb := Bb.ext e4
    have E4 := E3.trans e4
    clear E3
    clear e4
    obtain ⟨Ba_0, Ba_1, Ba_2⟩ := id Ba
    obtain ⟨Bb_0, Bb_1, Bb_2⟩ := id Bb
    go_wp2_with fail
    refine (add_lit _ _ _ (dy m 0) (dy n 0) (dy (m + n) 0) 0 63 HQ.out.1 n2 n3 rm rn (by omega) T).mono ?_
    rintro _ w5 ⟨v5, rfl, n5, e5⟩
    clear Ba_0 Ba_1 Ba_2 Bb_0 Bb_1 Bb_2
    replace T := T.ext e5
    replace n2 := n2.ext e5
    replace n3 := n3.ext e5
    replace Ba := Ba.ext e5
    replace Bb := Bb.ext e5
    have E5 := E4.trans e5
    clear E4
    clear e5
    obtain ⟨Ba_0, Ba_1, Ba_2⟩ := id Ba
    obtain ⟨Bb_0, Bb_1, Bb_2⟩ := id Bb
    go_wp2_with fail
    refine (of_is _ _ (m + n) (by omega) (by omega) T).mono ?_
    rintro _ w6 ⟨v6, rfl, n6, e6⟩
    clear Ba_0 Ba_1 Ba_2 Bb_0 Bb_1 Bb_2
    replace T := T.ext e6
    replace n2 := n2.ext e6
    replace n3 := n3.ext e6
    replace n5 := n5.ext e6
    replace Ba := Ba.ext e6
    replace Bb := Bb.ext e6
    have E6 := E5.trans e6
    clear E5
    clear e6
    obtain ⟨Ba_0, Ba_1, Ba_2⟩ := id Ba
    obtain ⟨Bb_0, Bb_1, Bb_2⟩ := id Bb
    go_wp2_with fail
    refine (rsameD_eq _ _ _ (dy (m + n) 0) n5 n6).mono ?_
    rintro _ w7 ⟨rfl, e7⟩
    clear Ba_0 Ba_1 Ba_2 Bb_0 Bb_1 Bb_2
    replace T := T.ext e7
    replace n2 := n2.ext e7
    replace n3 := n3.ext e7
    replace n5 := n5.ext e7
    replace n6 := n6.ext e7
    replace Ba := Ba.ext e7
    replace Bb := Bb.ext e7
    have E7 := E6.trans e7
    clear E6
    clear e7
    obtain ⟨Ba_0, Ba_1, Ba_2⟩ := id Ba
    obtain ⟨Bb_0, Bb_1, Bb_2⟩ := id Bb
    clear n5 n6
    go_wp2_with fail
    refine (mul_lit _ _ _ (dy m 0) (dy n 0) (dy p 0) 0 63 0 63 HQ.out.2.1 n2 n3 rm rn (by omega) (by omega) T).mono ?_
    rintro _ w8 ⟨v8, rfl, n8, e8⟩
    clear Ba_0 Ba_1 Ba_2 Bb_0 Bb_1 Bb_2
    replace T := T.ext e8
    replace n2 := n2.ext e8
    replace n3 := n3.ext e8
    replace Ba := Ba.ext e8
    replace Bb := Bb.ext e8
    have E8 := E7.trans e8
    clear E7
    clear e8
    obtain ⟨Ba_0, Ba_1, Ba_2⟩ := id Ba
    obtain ⟨Bb_0, Bb_1, Bb_2⟩ := id Bb
    go_wp2_with fail
    refine (of_is _ _ p (by first | rfl | exact hwm | exact hwm2) (by omega) T).mono ?_
    rintro _ w9 ⟨v9, rfl, n9, e9⟩
    clear Ba_0 Ba_1 Ba_2 Bb_0 Bb_1 Bb_2
    replace T := T.ext e9
    replace n2 := n2.ext e9
    replace n3 := n3.ext e9
    replace n8 := n8.ext e9
    replace Ba := Ba.ext e9
    replace Bb := Bb.ext e9
    have E9 := E8.trans e9
    clear E8
    clear e9
    obtain ⟨Ba_0, Ba_1, Ba_2⟩ := id Ba
    obtain ⟨Bb_0, Bb_1, Bb_2⟩ := id Bb
    go_wp2_with fail
    refine (rsameD_eq _ _ _ (dy p 0) n8 n9).mono ?_
    rintro _ w10 ⟨rfl, e10⟩
    clear Ba_0 Ba_1 Ba_2 Bb_0 Bb_1 Bb_2
    replace T := T.ext e10
    replace n2 := n2.ext e10
    replace n3 := n3.ext e10
    replace n8 := n8.ext e10
    replace n9 := n9.ext e10
    replace Ba := Ba.ext e10
    replace Bb := Bb.ext e10
    have E10 := E9.trans e10
    clear E9
    clear e10
    obtain ⟨Ba_0, Ba_1, Ba_2⟩ := id Ba
    obtain ⟨Bb_0, Bb_1, Bb_2⟩ := id Bb
    clear n8 n9
    go_wp2_with fail
    refine (cmp_lit _ _ _ (dy m 0) (dy n 0) 0 63 0 63 _ HQ.out.2.2.1 n2 n3 rm rn (by omega) (by omega)).mono ?_
    rintro _ w11 ⟨rfl, e11⟩
    clear Ba_0 Ba_1 Ba_2 Bb_0 Bb_1 Bb_2
    replace T := T.ext e11
    replace n2 := n2.ext e11
    replace n3 := n3.ext e11
    replace Ba := Ba.ext e11
    replace Bb := Bb.ext e11
    have E11 := E10.trans e11
    clear E10
    clear e11
    obtain ⟨Ba_0, Ba_1, Ba_2⟩ := id Ba
    obtain ⟨Bb_0, Bb_1, Bb_2⟩ := id Bb
    go_wp2_with fail
    refine (flip_lit _ _ (dy m 0) (dy (-m) 0) 0 63 HQ.out.2.2.2 n2 rm (by omega) T).mono ?_
    rintro _ w12 ⟨v12, rfl, n12, e12⟩
    clear Ba_0 Ba_1 Ba_2 Bb_0 Bb_1 Bb_2
    replace T := T.ext e12
    replace n2 := n2.ext e12
    replace n3 := n3.ext e12
    replace Ba := Ba.ext e12
    replace Bb := Bb.ext e12
    have E12 := E11.trans e12
    clear E11
    clear e12
    obtain ⟨Ba_0, Ba_1, Ba_2⟩ := id Ba
    obtain ⟨Bb_0, Bb_1, Bb_2⟩ := id Bb
    go_wp2_with fail
    refine (of_is _ _ (-m) (by omega) (by omega) T).mono ?_
    rintro _ w13 ⟨v13, rfl, n13, e13⟩
    clear Ba_0 Ba_1 Ba_2 Bb_0 Bb_1 Bb_2
    replace T := T.ext e13
    replace n2 := n2.ext e13
    replace n3 := n3.ext e13
    replace n12 := n12.ext e13
    replace Ba := Ba.ext e13
    replace Bb := Bb.ext e13
    have E13 := E12.trans e13
    clear E12
    clear e13
    obtain ⟨Ba_0, Ba_1, Ba_2⟩ := id Ba
    obtain ⟨Bb_0, Bb_1, Bb_2⟩ := id Bb
    go_wp2_with fail
    refine (rsameD_eq _ _ _ (dy (-m) 0) n12 n13).mono ?_
    rintro _ w14 ⟨rfl, e14⟩
    clear Ba_0 Ba_1 Ba_2 Bb_0 Bb_1 Bb_2
    replace T := T.ext e14
    replace n2 := n2.ext e14
    replace n3 := n3.ext e14
    replace n12 := n12.ext e14
    replace n13 := n13.ext e14
    replace Ba := Ba.ext e14
    replace Bb := Bb.ext e14
    have E14 := E13.trans e14
    clear E13
    clear e14
    obtain ⟨Ba_0, Ba_1, Ba_2⟩ := id Ba
    obtain ⟨Bb_0, Bb_1, Bb_2⟩ := id Bb
    clear n12 n13
    go_wp2
    go_ret
    exact ⟨rfl, E14⟩

theorem walk_DyaInts (w : World) (T : Tb w) (m : Int) (hm : -9223372036854775808 ≤ m ∧ m ≤ 9223372036854775807) (n : Int) (hn : -9223372036854775808 ≤ n ∧ n ≤ 9223372036854775807) :
    Calls Tryd.prog 8 #[.int .i64 m, .int .i64 n] w (RetE w (.bool true)) := by
  by_cases h1 : m < -1073741824
  · skip
    go_enter Tryd.func8, Tryd.ntmps8
    go_wp2_with fail
    refine (headD_any _ T).mono ?_
    rintro _ w1 ⟨rfl, e1⟩
    go_wp2
    go_ret
    exact ⟨rfl, e1⟩
  by_cases h2 : 1073741824 < m
  · skip
    go_enter Tryd.func8, Tryd.ntmps8
    go_wp2_with fail
    refine (headD_any _ T).mono ?_
    rintro _ w1 ⟨rfl, e1⟩
    go_wp2
    go_ret
    exact ⟨rfl, e1⟩
  by_cases h3 : n < -1073741824
  · skip
    go_enter Tryd.func8, Tryd.ntmps8
    go_wp2_with fail
    refine (headD_any _ T).mono ?_
    rintro _ w1 ⟨rfl, e1⟩
    go_wp2
    go_ret
    exact ⟨rfl, e1⟩
  by_cases h4 : 1073741824 < n
  · skip
    go_enter Tryd.func8, Tryd.ntmps8
    go_wp2_with fail
    refine (headD_any _ T).mono ?_
    rintro _ w1 ⟨rfl, e1⟩
    go_wp2
    go_ret
    exact ⟨rfl, e1⟩
  rcases Int.lt_trichotomy m n with h | h | h
  · exact ints_in w m n (by omega) (by omega) T (-1) (cmpI_lt h) (by omega)
  · exact ints_in w m n (by omega) (by omega) T 0 (cmpI_eq h) (by omega)
  · exact ints_in w m n (by omega) (by omega) T 1 (cmpI_gt h) (by omega)

end Go.Proofs.YtjnnodbejnmkmaaDoor
