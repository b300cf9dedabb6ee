/- The walk of the law NatShift. -/
import Derived.Test.YtafmolljmceadaaL2
namespace Go.Proofs.Ytafmolljmceadaa
open Go.RowKit

set_option maxRecDepth 100000 in
set_option maxHeartbeats 4000000 in
theorem walk_NatShift (w : World) (va : Value) (xa : List Int) (ra : Row w va xa) (k : Int) (hk : 0 ≤ k ∧ k ≤ 255) : Calls Try.prog 6 #[va, .int .u8 k] w (RetE w (.bool true)) := by
  obtain ⟨Aa, ca, rfl, _, _, _⟩ := id ra
  obtain ⟨hk0, hk1⟩ := hk
  obtain ⟨K, rfl⟩ := Int.eq_ofNat_of_zero_le hk0
  have hK : K ≤ 255 := by omega
  cases hg : (badB xa)
  · have HG := Lib.hid hg
    have ga := hg
    clear hg
    obtain ⟨a, na, la, _, _⟩ := good_nat ra ga
    clear ga
    have hA0 : ¬ xa.length = 0 → a ≠ 0 := fun h e => by
      obtain ⟨ys, ry, ny, ey⟩ := na
      obtain ⟨A9, c9, e9, _⟩ := N.form (w := w) (v := .slice Aa xa.length ca) (by rw [← e]; exact ⟨ys, ry, ny, ey⟩)
      injection e9 with _ e9 _; omega
    by_cases h : xa.length = 0
    · have H0 := Lib.hid h
      clear h hA0
      go_enter Try.func6, Try.ntmps6
      go_wp2_with fail
      refine (head_any w).mono ?_
      rintro e w1 ⟨rfl, e1⟩
      replace ra := ra.ext e1
      replace na := na.ext e1
      have E1 := e1
      clear e1
      go_wp2_with fail
      refine (great1 w1 (.slice Aa xa.length ca) xa _ ra).mono ?_
      rw [HG.out]
      rintro e w2 ⟨rfl, h2⟩
      have e2 : Ext w1 w2 := by rw [← h2]; exact (Ext.refl w1).alloc _
      clear h2 HG
      replace ra := ra.ext e2
      replace na := na.ext e2
      have E2 := E1.trans e2
      clear E1
      clear e2 ra
      have lp : Lt 11 (2 ^ K) := Lt.of_bits (by rw [bl_two]; omega)
      have lq : Lt 41 (a * 2 ^ K) := la.mul lp
      have hbl : bl a ≤ 720 := la.bits
      have ld : Lt 30 (a / 2 ^ K) := la.of_le (Nat.div_le_self _ _)
      have hbp : ((bl (2 ^ K) : Nat) : Int) = (K : Int) + 1 := by rw [bl_two]; omega
      have HBP := Lib.hid hbp
      clear hbp
      obtain ⟨P, hP⟩ : ∃ P, P = 2 ^ K := ⟨_, rfl⟩
      rw [← hP] at lp lq ld HBP
      have HP := Lib.hid hP
      have hp0 : 0 < P := by rw [hP]; exact Nat.two_pow_pos K
      clear hP
      go_wp2_with fail
      refine (shl_nat _ _ 1 K (by omega) (nat_lit1 w2 1 _ 1 (by omega) (by omega) rfl) ((lt_int (by omega)).mono (by omega))).mono ?_
      rintro e w3 ⟨v3, rfl, n3, f3⟩
      rw [Nat.one_mul, ← HP.out] at n3
      have e3 : Ext w2 w3 := ((Ext.refl w2).alloc _).trans f3
      clear f3
      replace na := na.ext e3
      have E3 := E2.trans e3
      clear E2
      clear e3
      go_wp2_with fail
      refine (shl_nat w3 _ a K (by omega) na (la.mono (by omega))).mono ?_
      rintro e w4 ⟨v4, rfl, n4, e4⟩
      rw [← HP.out] at n4
      replace na := na.ext e4
      replace n3 := n3.ext e4
      have E4 := E3.trans e4
      clear E3
      clear e4
      go_wp2_with fail
      refine (shr_nat w4 _ a K (by omega) na (la.mono (by omega))).mono ?_
      rintro e w5 ⟨v5, rfl, n5, e5⟩
      rw [← HP.out] at n5
      replace na := na.ext e5
      replace n3 := n3.ext e5
      replace n4 := n4.ext e5
      have E5 := E4.trans e5
      clear E4
      clear e5
      go_wp2_with fail
      refine (rright_nat w5 v4 (a * P) n4 (lq.mono (by omega))).mono ?_
      rintro e w' ⟨rfl, rfl⟩
      go_wp2_with fail
      refine (rright_nat w5 v5 (a / P) n5 (ld.mono (by omega))).mono ?_
      rintro e w' ⟨rfl, rfl⟩
      go_wp2_with fail
      refine (rright_nat w5 v3 P n3 (lp.mono (by omega))).mono ?_
      rintro e w' ⟨rfl, rfl⟩
      go_wp2_with fail
      refine (len_lit w5 v3 P ((K : Int) + 1) n3 (lp.mono (by omega)) HBP.out).mono ?_
      rintro e w' ⟨rfl, rfl⟩
      go_wp2_with fail
      refine (shl_nat w5 v5 (a / P) K (by omega) n5 (ld.mono (by omega))).mono ?_
      rintro e w6 ⟨v6, rfl, n6, e6⟩
      rw [← HP.out] at n6
      replace na := na.ext e6
      replace n3 := n3.ext e6
      replace n4 := n4.ext e6
      replace n5 := n5.ext e6
      have E6 := E5.trans e6
      clear E5
      clear e6
      go_wp2_with fail
      refine (sub_yes w6 _ v6 a (a / P * P) na n6 (la.mono (by omega)) (Nat.div_mul_le_self _ _)).mono ?_
      rintro e w7 ⟨v7, rfl, n7, e7⟩
      replace na := na.ext e7
      replace n3 := n3.ext e7
      replace n4 := n4.ext e7
      replace n5 := n5.ext e7
      replace n6 := n6.ext e7
      have E7 := E6.trans e7
      clear E6
      clear e7
      clear n6
      go_wp2_with fail
      refine (shr_nat w7 v4 (a * P) K (by omega) n4 (lq.mono (by omega))).mono ?_
      rintro e w8 ⟨v8, rfl, n8, e8⟩
      rw [← HP.out, Nat.mul_div_cancel _ hp0] at n8
      replace na := na.ext e8
      replace n3 := n3.ext e8
      replace n4 := n4.ext e8
      replace n5 := n5.ext e8
      replace n7 := n7.ext e8
      have E8 := E7.trans e8
      clear E7
      clear e8
      go_wp2_with fail
      refine (same_eq w8 v8 _ a n8 na).mono ?_
      rintro e w9 ⟨rfl, q9⟩
      have e9 := q9.ext
      replace na := na.ext e9
      replace n3 := n3.ext e9
      replace n4 := n4.ext e9
      replace n5 := n5.ext e9
      replace n7 := n7.ext e9
      replace n8 := n8.ext e9
      have E9 := E8.trans e9
      clear E8
      clear e9 q9
      clear n8
      go_wp2_with fail
      refine (mul_any w9 _ v3 a P na n3 (la.mono (by omega)) (lp.mono (by omega))).mono ?_
      rintro e w10 ⟨v10, rfl, n10, e10⟩
      replace na := na.ext e10
      replace n3 := n3.ext e10
      replace n4 := n4.ext e10
      replace n5 := n5.ext e10
      replace n7 := n7.ext e10
      have E10 := E9.trans e10
      clear E9
      clear e10
      go_wp2_with fail
      refine (same_eq w10 v4 v10 (a * P) n4 n10).mono ?_
      rintro e w11 ⟨rfl, q11⟩
      have e11 := q11.ext
      replace na := na.ext e11
      replace n3 := n3.ext e11
      replace n4 := n4.ext e11
      replace n5 := n5.ext e11
      replace n7 := n7.ext e11
      replace n10 := n10.ext e11
      have E11 := E10.trans e11
      clear E10
      clear e11 q11
      clear n10
      go_wp2_with fail
      refine (cmp_lit w11 v7 v3 (a - a / P * P) P (-1) n7 n3 (cmpI_lt (by have := Nat.mod_lt a hp0; have e := Nat.div_add_mod a P; rw [Nat.mul_comm] at e; omega))).mono ?_
      rintro e w12 ⟨rfl, q12⟩
      have e12 := q12.ext
      replace na := na.ext e12
      replace n3 := n3.ext e12
      replace n4 := n4.ext e12
      replace n5 := n5.ext e12
      replace n7 := n7.ext e12
      have E12 := E11.trans e12
      clear E11
      clear e12 q12
      have hlen : ((xa.length : Int) == 0) = true := beq_iff_eq.2 (by have := H0.out; omega)
      go_wp2
      go_ret
      exact ⟨rfl, E12⟩
    · have hne : a ≠ 0 := hA0 h
      clear hA0
      go_enter Try.func6, Try.ntmps6
      go_wp2_with fail
      refine (head_any w).mono ?_
      rintro e w1 ⟨rfl, e1⟩
      replace ra := ra.ext e1
      replace na := na.ext e1
      have E1 := e1
      clear e1
      go_wp2_with fail
      refine (great1 w1 (.slice Aa xa.length ca) xa _ ra).mono ?_
      rw [HG.out]
      rintro e w2 ⟨rfl, h2⟩
      have e2 : Ext w1 w2 := by rw [← h2]; exact (Ext.refl w1).alloc _
      clear h2 HG
      replace ra := ra.ext e2
      replace na := na.ext e2
      have E2 := E1.trans e2
      clear E1
      clear e2 ra
      have lp : Lt 11 (2 ^ K) := Lt.of_bits (by rw [bl_two]; omega)
      have lq : Lt 41 (a * 2 ^ K) := la.mul lp
      have hbl : bl a ≤ 720 := la.bits
      have ld : Lt 30 (a / 2 ^ K) := la.of_le (Nat.div_le_self _ _)
      have hbp : ((bl (2 ^ K) : Nat) : Int) = (K : Int) + 1 := by rw [bl_two]; omega
      have HBP := Lib.hid hbp
      clear hbp
      obtain ⟨P, hP⟩ : ∃ P, P = 2 ^ K := ⟨_, rfl⟩
      rw [← hP] at lp lq ld HBP
      have HP := Lib.hid hP
      have hp0 : 0 < P := by rw [hP]; exact Nat.two_pow_pos K
      clear hP
      go_wp2_with fail
      refine (shl_nat _ _ 1 K (by omega) (nat_lit1 w2 1 _ 1 (by omega) (by omega) rfl) ((lt_int (by omega)).mono (by omega))).mono ?_
      rintro e w3 ⟨v3, rfl, n3, f3⟩
      rw [Nat.one_mul, ← HP.out] at n3
      have e3 : Ext w2 w3 := ((Ext.refl w2).alloc _).trans f3
      clear f3
      replace na := na.ext e3
      have E3 := E2.trans e3
      clear E2
      clear e3
      go_wp2_with fail
      refine (shl_nat w3 _ a K (by omega) na (la.mono (by omega))).mono ?_
      rintro e w4 ⟨v4, rfl, n4, e4⟩
      rw [← HP.out] at n4
      replace na := na.ext e4
      replace n3 := n3.ext e4
      have E4 := E3.trans e4
      clear E3
      clear e4
      go_wp2_with fail
      refine (shr_nat w4 _ a K (by omega) na (la.mono (by omega))).mono ?_
      rintro e w5 ⟨v5, rfl, n5, e5⟩
      rw [← HP.out] at n5
      replace na := na.ext e5
      replace n3 := n3.ext e5
      replace n4 := n4.ext e5
      have E5 := E4.trans e5
      clear E4
      clear e5
      go_wp2_with fail
      refine (rright_nat w5 v4 (a * P) n4 (lq.mono (by omega))).mono ?_
      rintro e w' ⟨rfl, rfl⟩
      go_wp2_with fail
      refine (rright_nat w5 v5 (a / P) n5 (ld.mono (by omega))).mono ?_
      rintro e w' ⟨rfl, rfl⟩
      go_wp2_with fail
      refine (rright_nat w5 v3 P n3 (lp.mono (by omega))).mono ?_
      rintro e w' ⟨rfl, rfl⟩
      go_wp2_with fail
      refine (len_lit w5 v3 P ((K : Int) + 1) n3 (lp.mono (by omega)) HBP.out).mono ?_
      rintro e w' ⟨rfl, rfl⟩
      go_wp2_with fail
      refine (shl_nat w5 v5 (a / P) K (by omega) n5 (ld.mono (by omega))).mono ?_
      rintro e w6 ⟨v6, rfl, n6, e6⟩
      rw [← HP.out] at n6
      replace na := na.ext e6
      replace n3 := n3.ext e6
      replace n4 := n4.ext e6
      replace n5 := n5.ext e6
      have E6 := E5.trans e6
      clear E5
      clear e6
      go_wp2_with fail
      refine (sub_yes w6 _ v6 a (a / P * P) na n6 (la.mono (by omega)) (Nat.div_mul_le_self _ _)).mono ?_
      rintro e w7 ⟨v7, rfl, n7, e7⟩
      replace na := na.ext e7
      replace n3 := n3.ext e7
      replace n4 := n4.ext e7
      replace n5 := n5.ext e7
      replace n6 := n6.ext e7
      have E7 := E6.trans e7
      clear E6
      clear e7
      clear n6
      go_wp2_with fail
      refine (shr_nat w7 v4 (a * P) K (by omega) n4 (lq.mono (by omega))).mono ?_
      rintro e w8 ⟨v8, rfl, n8, e8⟩
      rw [← HP.out, Nat.mul_div_cancel _ hp0] at n8
      replace na := na.ext e8
      replace n3 := n3.ext e8
      replace n4 := n4.ext e8
      replace n5 := n5.ext e8
      replace n7 := n7.ext e8
      have E8 := E7.trans e8
      clear E7
      clear e8
      go_wp2_with fail
      refine (same_eq w8 v8 _ a n8 na).mono ?_
      rintro e w9 ⟨rfl, q9⟩
      have e9 := q9.ext
      replace na := na.ext e9
      replace n3 := n3.ext e9
      replace n4 := n4.ext e9
      replace n5 := n5.ext e9
      replace n7 := n7.ext e9
      replace n8 := n8.ext e9
      have E9 := E8.trans e9
      clear E8
      clear e9 q9
      clear n8
      go_wp2_with fail
      refine (mul_any w9 _ v3 a P na n3 (la.mono (by omega)) (lp.mono (by omega))).mono ?_
      rintro e w10 ⟨v10, rfl, n10, e10⟩
      replace na := na.ext e10
      replace n3 := n3.ext e10
      replace n4 := n4.ext e10
      replace n5 := n5.ext e10
      replace n7 := n7.ext e10
      have E10 := E9.trans e10
      clear E9
      clear e10
      go_wp2_with fail
      refine (same_eq w10 v4 v10 (a * P) n4 n10).mono ?_
      rintro e w11 ⟨rfl, q11⟩
      have e11 := q11.ext
      replace na := na.ext e11
      replace n3 := n3.ext e11
      replace n4 := n4.ext e11
      replace n5 := n5.ext e11
      replace n7 := n7.ext e11
      replace n10 := n10.ext e11
      have E11 := E10.trans e11
      clear E10
      clear e11 q11
      clear n10
      go_wp2_with fail
      refine (cmp_lit w11 v7 v3 (a - a / P * P) P (-1) n7 n3 (cmpI_lt (by have := Nat.mod_lt a hp0; have e := Nat.div_add_mod a P; rw [Nat.mul_comm] at e; omega))).mono ?_
      rintro e w12 ⟨rfl, q12⟩
      have e12 := q12.ext
      replace na := na.ext e12
      replace n3 := n3.ext e12
      replace n4 := n4.ext e12
      replace n5 := n5.ext e12
      replace n7 := n7.ext e12
      have E12 := E11.trans e12
      clear E11
      clear e12 q12
      have hlen : ((xa.length : Int) == 0) = false := beq_eq_false_iff_ne.2 (by omega)
      go_wp2_with fail
      refine (len_lit w12 v4 (a * P) ((bl a : Int) + (K : Int)) n4 (lq.mono (by omega)) (by rw [HP.out, bl_shift K hne]; omega)).mono ?_
      rintro e w' ⟨rfl, rfl⟩
      go_wp2_with fail
      refine (len_any w12 _ a na (la.mono (by omega))).mono ?_
      rintro e w' ⟨rfl, rfl⟩
      go_wp2
      go_ret
      exact ⟨rfl, E12⟩
  · have HG := Lib.hid hg
    clear hg
    go_enter Try.func6, Try.ntmps6
    go_wp2_with fail
    refine (head_any w).mono ?_
    rintro e w1 ⟨rfl, e1⟩
    replace ra := ra.ext e1
    have E1 := e1
    clear e1
    go_wp2_with fail
    refine (great1 w1 (.slice Aa xa.length ca) xa _ ra).mono ?_
    rw [HG.out]
    rintro e w2 ⟨rfl, h2⟩
    have e2 : Ext w1 w2 := by rw [← h2]; exact (Ext.refl w1).alloc _
    clear h2 HG
    replace ra := ra.ext e2
    have E2 := E1.trans e2
    clear E1
    clear e2 ra
    go_wp2
    go_ret
    exact ⟨rfl, E2⟩

end Go.Proofs.Ytafmolljmceadaa
