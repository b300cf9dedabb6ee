/- The walk of the law NatTells. -/
import Derived.Test.YtafmolljmceadaaL2
import Derived.Test.YtafmolljmceadaaR7
namespace Go.Proofs.Ytafmolljmceadaa
open Go.RowKit

theorem sub_both (m n : Nat) (hm : Lt 400 m) : ∃ s b, (∀ w va vb, N w va m → N w vb n → Calls Try.prog 16 #[va, vb] w (RetNB w s b)) ∧ (∀ w va vb, N w va m → N w vb n → Calls Try.prog 17 #[va, vb] w (RetNB w s b)) := by
  by_cases h : m < n
  · exact ⟨0, false, fun w va vb ha hb => sub_no w va vb m n ha hb h, fun w va vb ha hb => rsub_no w va vb m n ha hb h⟩
  · exact ⟨m - n, true, fun w va vb ha hb => sub_yes w va vb m n ha hb hm (by omega), fun w va vb ha hb => rsub_yes w va vb m n ha hb hm (by omega)⟩
theorem int_both (m : Nat) (hm : Lt 400 m) : ∃ z b, (∀ w v, N w v m → Calls Try.prog 18 #[v] w fun e w' => e = .returned (.tuple #[.int .i64 z, .bool b]) ∧ w = w') ∧ (∀ w v, N w v m → Calls Try.prog 19 #[v] w fun e w' => e = .returned (.tuple #[.int .i64 z, .bool b]) ∧ w = w') := by
  by_cases h : m < 4611686018427387904
  · exact ⟨m, true, fun w v hv => int_yes w v m hv hm h, fun w v hv => rint_yes w v m hv hm h⟩
  · exact ⟨0, false, fun w v hv => int_no w v m hv hm (by omega), fun w v hv => rint_no w v m hv hm (by omega)⟩
theorem shl_both (m : Nat) (k : Int) (hm : Lt 400 m) (hk : k ≤ 500) : ∃ s, (∀ w v, N w v m → Calls Try.prog 28 #[v, .int .i64 k] w (RetN w s)) ∧ (∀ w v, N w v m → Calls Try.prog 29 #[v, .int .i64 k] w (RetN w s)) := by
  rcases Int.lt_or_le k 0 with h | h
  · exact ⟨m, fun w v hv => shl_neg w v m k h hv hm, fun w v hv => rshl_same w v m k hv hm (.inl (by omega))⟩
  · obtain ⟨K, rfl⟩ := Int.eq_ofNat_of_zero_le h
    by_cases h0 : K = 0 ∨ m = 0
    · refine ⟨m, fun w v hv => ?_, fun w v hv => rshl_same w v m K hv hm (by omega)⟩
      have := shl_nat w v m K (by omega) hv hm
      rwa [show m * 2 ^ K = m by rcases h0 with e | e <;> simp [e]] at this
    · exact ⟨m * 2 ^ K, fun w v hv => shl_nat w v m K (by omega) hv hm, fun w v hv => rshl_nat w v m K (by omega) (by omega) hv hm (by omega)⟩
theorem shr_both (m : Nat) (k : Int) (hm : Lt 400 m) (hk : k ≤ 500) : ∃ s, (∀ w v, N w v m → Calls Try.prog 30 #[v, .int .i64 k] w (RetN w s)) ∧ (∀ w v, N w v m → Calls Try.prog 31 #[v, .int .i64 k] w (RetN w s)) := by
  rcases Int.lt_or_le k 0 with h | h
  · exact ⟨m, fun w v hv => shr_neg w v m k h hv hm, fun w v hv => rshr_same w v m k hv hm (by omega)⟩
  · obtain ⟨K, rfl⟩ := Int.eq_ofNat_of_zero_le h
    by_cases h0 : K = 0
    · refine ⟨m, fun w v hv => ?_, fun w v hv => rshr_same w v m K hv hm (by omega)⟩
      have := shr_nat w v m K (by omega) hv hm
      rwa [show m / 2 ^ K = m by simp [h0]] at this
    · exact ⟨m / 2 ^ K, fun w v hv => shr_nat w v m K (by omega) hv hm, fun w v hv => rshr_nat w v m K (by omega) (by omega) hv hm⟩
theorem cmp_both (m n : Nat) : ∃ z, (∀ w va vb, N w va m → N w vb n → Calls Try.prog 24 #[va, vb] w (RetQ w (.int .i64 z))) ∧ (∀ w va vb, N w va m → N w vb n → Calls Try.prog 25 #[va, vb] w (RetQ w (.int .i64 z))) :=
  ⟨_, fun w va vb ha hb => cmp_nat w va vb m n ha hb, fun w va vb ha hb => rcmp_nat w va vb m n ha hb⟩

set_option maxRecDepth 100000 in
set_option maxHeartbeats 4000000 in
theorem walk_NatTells (w : World) (va : Value) (xa : List Int) (ra : Row w va xa) (vb : Value) (xb : List Int) (rb : Row w vb xb) (k : Int) (hk : -9223372036854775808 ≤ k ∧ k ≤ 9223372036854775807) (n : Int) (hn : -9223372036854775808 ≤ n ∧ n ≤ 9223372036854775807) (vr : Value) (xr : List Int) (rr : Row w vr xr) : Calls Try.prog 3 #[va, vb, .int .i64 k, .int .i64 n, vr] w (RetE w (.bool true)) := by
  obtain ⟨Aa, ca, rfl, _, _, _⟩ := id ra
  obtain ⟨Ab, cb, rfl, _, _, _⟩ := id rb
  obtain ⟨Ar, cr, rfl, _, _, _⟩ := id rr
  by_cases hlong : 400 < xr.length
  · clear ra rb rr
    go_enter Try.func3, Try.ntmps3
    go_wp2_with fail
    refine (head_any w).mono ?_
    rintro e w1 ⟨rfl, e1⟩
    have E1 := e1
    clear e1
    go_wp2
    go_ret
    exact ⟨rfl, E1⟩
  obtain ⟨B, hB⟩ : ∃ B, rightB xr = B := ⟨_, rfl⟩
  have HR1 := Lib.hid (fun w' (r : Row w' (.slice Ar xr.length cr) xr) => hB ▸ right_any w' _ xr r)
  have HR2 := Lib.hid (fun w' (r : Row w' (.slice Ar xr.length cr) xr) => hB ▸ rright_any w' _ xr r)
  clear hB
  cases hg : (badB xa || badB xb)
  · have HG := Lib.hid hg
    rw [Bool.or_eq_false_iff] at hg
    obtain ⟨ga, gb⟩ := hg
    obtain ⟨a, na, la, _, _⟩ := good_nat ra ga
    obtain ⟨b, nb, lb, _, _⟩ := good_nat rb gb
    clear ga gb
    by_cases h5 : 500 < k
    · go_enter Try.func3, Try.ntmps3
      go_wp2_with fail
      refine (head_any w).mono ?_
      rintro e w1 ⟨rfl, e1⟩
      replace ra := ra.ext e1
      replace rb := rb.ext e1
      replace rr := rr.ext e1
      have E1 := e1
      clear e1
      go_wp2_with fail
      refine (HR1.out w1 rr).mono ?_
      rintro e w' ⟨rfl, rfl⟩
      go_wp2_with fail
      refine (HR2.out w1 rr).mono ?_
      rintro e w' ⟨rfl, rfl⟩
      go_wp2_with fail
      refine (of_any w1 n hn.2).mono ?_
      rintro e w2 ⟨v2, rfl, n2, e2⟩
      replace ra := ra.ext e2
      replace rb := rb.ext e2
      replace rr := rr.ext e2
      have E2 := E1.trans e2
      clear E1
      clear e2
      go_wp2_with fail
      refine (rof_any w2 n hn.2).mono ?_
      rintro e w3 ⟨v3, rfl, n3, e3⟩
      replace ra := ra.ext e3
      replace rb := rb.ext e3
      replace rr := rr.ext e3
      replace n2 := n2.ext e3
      have E3 := E2.trans e3
      clear E2
      clear e3
      go_wp2_with fail
      refine (same_eq w3 v2 v3 n.toNat n2 n3).mono ?_
      rintro e w4 ⟨rfl, q4⟩
      have e4 := q4.ext
      replace ra := ra.ext e4
      replace rb := rb.ext e4
      replace rr := rr.ext e4
      replace n2 := n2.ext e4
      replace n3 := n3.ext e4
      have E4 := E3.trans e4
      clear E3
      clear e4 q4
      clear n2 n3
      clear rr
      go_wp2_with fail
      refine (great2 w4 (.slice Aa xa.length ca) (.slice Ab xb.length cb) xa xb _ ra rb).mono ?_
      rw [HG.out]
      rintro e w5 ⟨rfl, h5⟩
      have e5 : Ext w4 w5 := by rw [← h5]; exact (Ext.refl w4).alloc _
      clear h5 HG
      replace ra := ra.ext e5
      replace rb := rb.ext e5
      have E5 := E4.trans e5
      clear E4
      clear e5 ra rb
      go_wp2
      go_ret
      exact ⟨rfl, E5⟩
    · obtain ⟨s, b1, HS1, HS2⟩ := sub_both a b (la.mono (by omega))
      obtain ⟨z, b2, HI1, HI2⟩ := int_both a (la.mono (by omega))
      obtain ⟨sl, HL1, HL2⟩ := shl_both a k (la.mono (by omega)) (by omega)
      obtain ⟨sr, HT1, HT2⟩ := shr_both a k (la.mono (by omega)) (by omega)
      obtain ⟨y, HC1, HC2⟩ := cmp_both a b
      replace HS1 := Lib.hid HS1
      replace HS2 := Lib.hid HS2
      replace HI1 := Lib.hid HI1
      replace HI2 := Lib.hid HI2
      replace HL1 := Lib.hid HL1
      replace HL2 := Lib.hid HL2
      replace HT1 := Lib.hid HT1
      replace HT2 := Lib.hid HT2
      replace HC1 := Lib.hid HC1
      replace HC2 := Lib.hid HC2
      go_enter Try.func3, Try.ntmps3
      go_wp2_with fail
      refine (head_any w).mono ?_
      rintro e w1 ⟨rfl, e1⟩
      replace ra := ra.ext e1
      replace rb := rb.ext e1
      replace rr := rr.ext e1
      replace na := na.ext e1
      replace nb := nb.ext e1
      have E1 := e1
      clear e1
      go_wp2_with fail
      refine (HR1.out w1 rr).mono ?_
      rintro e w' ⟨rfl, rfl⟩
      go_wp2_with fail
      refine (HR2.out w1 rr).mono ?_
      rintro e w' ⟨rfl, rfl⟩
      go_wp2_with fail
      refine (of_any w1 n hn.2).mono ?_
      rintro e w2 ⟨v2, rfl, n2, e2⟩
      replace ra := ra.ext e2
      replace rb := rb.ext e2
      replace rr := rr.ext e2
      replace na := na.ext e2
      replace nb := nb.ext e2
      have E2 := E1.trans e2
      clear E1
      clear e2
      go_wp2_with fail
      refine (rof_any w2 n hn.2).mono ?_
      rintro e w3 ⟨v3, rfl, n3, e3⟩
      replace ra := ra.ext e3
      replace rb := rb.ext e3
      replace rr := rr.ext e3
      replace na := na.ext e3
      replace nb := nb.ext e3
      replace n2 := n2.ext e3
      have E3 := E2.trans e3
      clear E2
      clear e3
      go_wp2_with fail
      refine (same_eq w3 v2 v3 n.toNat n2 n3).mono ?_
      rintro e w4 ⟨rfl, q4⟩
      have e4 := q4.ext
      replace ra := ra.ext e4
      replace rb := rb.ext e4
      replace rr := rr.ext e4
      replace na := na.ext e4
      replace nb := nb.ext e4
      replace n2 := n2.ext e4
      replace n3 := n3.ext e4
      have E4 := E3.trans e4
      clear E3
      clear e4 q4
      clear n2 n3
      clear rr
      go_wp2_with fail
      refine (great2 w4 (.slice Aa xa.length ca) (.slice Ab xb.length cb) xa xb _ ra rb).mono ?_
      rw [HG.out]
      rintro e w5 ⟨rfl, h5⟩
      have e5 : Ext w4 w5 := by rw [← h5]; exact (Ext.refl w4).alloc _
      clear h5 HG
      replace ra := ra.ext e5
      replace rb := rb.ext e5
      replace na := na.ext e5
      replace nb := nb.ext e5
      have E5 := E4.trans e5
      clear E4
      clear e5 ra rb
      go_wp2_with fail
      refine (HS1.out w5 _ _ na nb).mono ?_
      rintro e w6 ⟨v6, rfl, n6, e6⟩
      replace na := na.ext e6
      replace nb := nb.ext e6
      have E6 := E5.trans e6
      clear E5
      clear e6
      go_wp2_with fail
      refine (HS2.out w6 _ _ na nb).mono ?_
      rintro e w7 ⟨v7, rfl, n7, e7⟩
      replace na := na.ext e7
      replace nb := nb.ext e7
      replace n6 := n6.ext e7
      have E7 := E6.trans e7
      clear E6
      clear e7
      go_wp2_with fail
      refine (HI1.out w7 _ na).mono ?_
      rintro e w' ⟨rfl, rfl⟩
      go_wp2_with fail
      refine (HI2.out w7 _ na).mono ?_
      rintro e w' ⟨rfl, rfl⟩
      go_wp2_with fail
      refine (add_any w7 _ _ a b na nb (la.mono (by omega)) (lb.mono (by omega))).mono ?_
      rintro e w8 ⟨v8, rfl, n8, e8⟩
      replace na := na.ext e8
      replace nb := nb.ext e8
      replace n6 := n6.ext e8
      replace n7 := n7.ext e8
      have E8 := E7.trans e8
      clear E7
      clear e8
      go_wp2_with fail
      refine (radd_any w8 _ _ a b na nb (la.mono (by omega)) (lb.mono (by omega))).mono ?_
      rintro e w9 ⟨v9, rfl, n9, e9⟩
      replace na := na.ext e9
      replace nb := nb.ext e9
      replace n6 := n6.ext e9
      replace n7 := n7.ext e9
      replace n8 := n8.ext e9
      have E9 := E8.trans e9
      clear E8
      clear e9
      go_wp2_with fail
      refine (same_eq w9 v8 v9 (a + b) n8 n9).mono ?_
      rintro e w10 ⟨rfl, q10⟩
      have e10 := q10.ext
      replace na := na.ext e10
      replace nb := nb.ext e10
      replace n6 := n6.ext e10
      replace n7 := n7.ext e10
      replace n8 := n8.ext e10
      replace n9 := n9.ext e10
      have E10 := E9.trans e10
      clear E9
      clear e10 q10
      clear n8 n9
      go_wp2_with fail
      refine (mul_any w10 _ _ a b na nb (la.mono (by omega)) (lb.mono (by omega))).mono ?_
      rintro e w11 ⟨v11, rfl, n11, e11⟩
      replace na := na.ext e11
      replace nb := nb.ext e11
      replace n6 := n6.ext e11
      replace n7 := n7.ext e11
      have E11 := E10.trans e11
      clear E10
      clear e11
      go_wp2_with fail
      refine (rmul_any w11 _ _ a b na nb (la.mono (by omega)) (lb.mono (by omega))).mono ?_
      rintro e w12 ⟨v12, rfl, n12, e12⟩
      replace na := na.ext e12
      replace nb := nb.ext e12
      replace n6 := n6.ext e12
      replace n7 := n7.ext e12
      replace n11 := n11.ext e12
      have E12 := E11.trans e12
      clear E11
      clear e12
      go_wp2_with fail
      refine (same_eq w12 v11 v12 (a * b) n11 n12).mono ?_
      rintro e w13 ⟨rfl, q13⟩
      have e13 := q13.ext
      replace na := na.ext e13
      replace nb := nb.ext e13
      replace n6 := n6.ext e13
      replace n7 := n7.ext e13
      replace n11 := n11.ext e13
      replace n12 := n12.ext e13
      have E13 := E12.trans e13
      clear E12
      clear e13 q13
      clear n11 n12
      go_wp2_with fail
      refine (same_eq w13 v6 v7 s n6 n7).mono ?_
      rintro e w14 ⟨rfl, q14⟩
      have e14 := q14.ext
      replace na := na.ext e14
      replace nb := nb.ext e14
      replace n6 := n6.ext e14
      replace n7 := n7.ext e14
      have E14 := E13.trans e14
      clear E13
      clear e14 q14
      clear n6 n7
      go_wp2_with fail
      refine (HC1.out w14 _ _ na nb).mono ?_
      rintro e w15 ⟨rfl, q15⟩
      have e15 := q15.ext
      replace na := na.ext e15
      replace nb := nb.ext e15
      have E15 := E14.trans e15
      clear E14
      clear e15 q15
      go_wp2_with fail
      refine (HC2.out w15 _ _ na nb).mono ?_
      rintro e w16 ⟨rfl, q16⟩
      have e16 := q16.ext
      replace na := na.ext e16
      replace nb := nb.ext e16
      have E16 := E15.trans e16
      clear E15
      clear e16 q16
      clear nb
      go_wp2_with fail
      refine (len_any w16 _ a na (la.mono (by omega))).mono ?_
      rintro e w' ⟨rfl, rfl⟩
      go_wp2_with fail
      refine (rlen_any w16 _ a na (la.mono (by omega))).mono ?_
      rintro e w' ⟨rfl, rfl⟩
      go_wp2_with fail
      refine (HL1.out w16 _ na).mono ?_
      rintro e w17 ⟨v17, rfl, n17, e17⟩
      replace na := na.ext e17
      have E17 := E16.trans e17
      clear E16
      clear e17
      go_wp2_with fail
      refine (HL2.out w17 _ na).mono ?_
      rintro e w18 ⟨v18, rfl, n18, e18⟩
      replace na := na.ext e18
      replace n17 := n17.ext e18
      have E18 := E17.trans e18
      clear E17
      clear e18
      go_wp2_with fail
      refine (same_eq w18 v17 v18 sl n17 n18).mono ?_
      rintro e w19 ⟨rfl, q19⟩
      have e19 := q19.ext
      replace na := na.ext e19
      replace n17 := n17.ext e19
      replace n18 := n18.ext e19
      have E19 := E18.trans e19
      clear E18
      clear e19 q19
      clear n17 n18
      go_wp2_with fail
      refine (HT1.out w19 _ na).mono ?_
      rintro e w20 ⟨v20, rfl, n20, e20⟩
      replace na := na.ext e20
      have E20 := E19.trans e20
      clear E19
      clear e20
      go_wp2_with fail
      refine (HT2.out w20 _ na).mono ?_
      rintro e w21 ⟨v21, rfl, n21, e21⟩
      replace na := na.ext e21
      replace n20 := n20.ext e21
      have E21 := E20.trans e21
      clear E20
      clear e21
      go_wp2_with fail
      refine (same_eq w21 v20 v21 sr n20 n21).mono ?_
      rintro e w22 ⟨rfl, q22⟩
      have e22 := q22.ext
      replace na := na.ext e22
      replace n20 := n20.ext e22
      replace n21 := n21.ext e22
      have E22 := E21.trans e22
      clear E21
      clear e22 q22
      clear n20 n21
      go_wp2_with fail
      refine (root_any w22 _ a na (la.mono (by omega))).mono ?_
      rintro e w23 ⟨r1, hs1, v23, rfl, n23, e23⟩
      replace na := na.ext e23
      have E23 := E22.trans e23
      clear E22
      clear e23
      go_wp2_with fail
      refine (rroot_any w23 _ a na (la.mono (by omega))).mono ?_
      rintro e w24 ⟨r2, hs2, v24, rfl, n24, e24⟩
      replace na := na.ext e24
      replace n23 := n23.ext e24
      have E24 := E23.trans e24
      clear E23
      clear e24
      rw [hs2.uniq hs1] at n24
      clear hs1 hs2
      go_wp2_with fail
      refine (same_eq w24 v23 v24 r1 n23 n24).mono ?_
      rintro e w25 ⟨rfl, q25⟩
      have e25 := q25.ext
      replace na := na.ext e25
      replace n23 := n23.ext e25
      replace n24 := n24.ext e25
      have E25 := E24.trans e25
      clear E24
      clear e25 q25
      clear n23 n24
      go_wp2
      go_ret
      exact ⟨rfl, E25⟩
  · have HG := Lib.hid hg
    clear hg
    go_enter Try.func3, Try.ntmps3
    go_wp2_with fail
    refine (head_any w).mono ?_
    rintro e w1 ⟨rfl, e1⟩
    replace ra := ra.ext e1
    replace rb := rb.ext e1
    replace rr := rr.ext e1
    have E1 := e1
    clear e1
    go_wp2_with fail
    refine (HR1.out w1 rr).mono ?_
    rintro e w' ⟨rfl, rfl⟩
    go_wp2_with fail
    refine (HR2.out w1 rr).mono ?_
    rintro e w' ⟨rfl, rfl⟩
    go_wp2_with fail
    refine (of_any w1 n hn.2).mono ?_
    rintro e w2 ⟨v2, rfl, n2, e2⟩
    replace ra := ra.ext e2
    replace rb := rb.ext e2
    replace rr := rr.ext e2
    have E2 := E1.trans e2
    clear E1
    clear e2
    go_wp2_with fail
    refine (rof_any w2 n hn.2).mono ?_
    rintro e w3 ⟨v3, rfl, n3, e3⟩
    replace ra := ra.ext e3
    replace rb := rb.ext e3
    replace rr := rr.ext e3
    replace n2 := n2.ext e3
    have E3 := E2.trans e3
    clear E2
    clear e3
    go_wp2_with fail
    refine (same_eq w3 v2 v3 n.toNat n2 n3).mono ?_
    rintro e w4 ⟨rfl, q4⟩
    have e4 := q4.ext
    replace ra := ra.ext e4
    replace rb := rb.ext e4
    replace rr := rr.ext e4
    replace n2 := n2.ext e4
    replace n3 := n3.ext e4
    have E4 := E3.trans e4
    clear E3
    clear e4 q4
    clear n2 n3
    clear rr
    go_wp2_with fail
    refine (great2 w4 (.slice Aa xa.length ca) (.slice Ab xb.length cb) xa xb _ ra rb).mono ?_
    rw [HG.out]
    rintro e w5 ⟨rfl, h5⟩
    have e5 : Ext w4 w5 := by rw [← h5]; exact (Ext.refl w4).alloc _
    clear h5 HG
    replace ra := ra.ext e5
    replace rb := rb.ext e5
    have E5 := E4.trans e5
    clear E4
    clear e5 ra rb
    go_wp2
    go_ret
    exact ⟨rfl, E5⟩

end Go.Proofs.Ytafmolljmceadaa
