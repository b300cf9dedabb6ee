/- The walk of law FloNext. -/
import Derived.Test.YtdfkhaajeojeeaaDoorJ3
import Derived.Test.YtdfkhaajeojeeaaDoorWFloBack
namespace Go.Proofs.YtdfkhaajeojeeaaDoor
open Go.RowKit
set_option linter.unusedVariables false

theorem ord_neq {a b : Nat} (ha : Num64 a) (hb : Num64 b) (h : fkey a ≠ fkey b) : (Ieee.double.order a b == some .eq) = false := by
  rw [order_num ha hb]
  have : compare (fkey a) (fkey b) ≠ .eq := fun k => h (Int.compare_eq_eq.1 k)
  generalize compare (fkey a) (fkey b) = o at *
  cases o <;> first | rfl | exact absurd rfl this
theorem ord_nne {a b : Nat} (ha : Num64 a) (hb : Num64 b) (h : fkey a ≠ fkey b) : (Ieee.double.order a b != some .eq) = true := by unfold bne; rw [ord_neq ha hb h]; rfl
theorem ord_nn {a b : Nat} (ha : Num64 a) (hb : Num64 b) (h : fkey a = fkey b) : (Ieee.double.order a b != some .eq) = false := by unfold bne; rw [order_key ha hb h]; rfl
theorem zero_k : fkey 0 = 0 ∧ Num64 0 := ⟨by decide, ⟨by decide⟩⟩
theorem shift_half (w : World) (v : Value) (d : Dyadic) (h : Dn w v d) (hb : Nb d) : Calls Tryd.prog 24 #[v, .int .i64 (-1)] w (RetD w (d * dy 1 (-1))) := by
  obtain ⟨z, e, rfl, hc, hl, he⟩ := hb.out
  have := rshift_any w v z e (-1) h hc (hl.mono (by omega)) (by omega) (by omega)
  rwa [dy_mul, Int.mul_one]
theorem half_twice (x : Dyadic) : x * dy 1 (-1) + x * dy 1 (-1) = x := by
  obtain ⟨z, e, rfl⟩ := exists_dy x
  rw [dy_mul, Int.mul_one, dy_add]
  have := dy_up z (e + -1) 1
  rw [show e + -1 + ((1 : Nat) : Int) = e by omega] at this
  rw [← this]; congr 1; omega
theorem cmpD_l {x y : Dyadic} (h : x < y) : cmpD x y = -1 := by unfold cmpD; rw [if_pos h]
theorem cmpD_e {x y : Dyadic} (h : x = y) : cmpD x y = 0 := by unfold cmpD; rw [if_neg (by grind), if_pos h]
theorem cmpD_g {x y : Dyadic} (h : y < x) : cmpD x y = 1 := by unfold cmpD; rw [if_neg (by grind), if_neg (by grind)]

set_option maxRecDepth 10000 in
set_option maxHeartbeats 2000000 in
theorem nx_nan (w : World) (T : Tg w) (f : Nat) (hf : f < 18446744073709551616) (nbd : Bool) (Md : Value) (xd : List Int) (jd : Int) (rowd : Row w Md xd) (bdd : -9223372036854775808 ≤ jd ∧ jd ≤ 9223372036854775807) (hno : 9218868437227405312 ≤ frung f) (hX : ∀ w' : World, Tg w' → Calls Tryd.prog 15 #[.float .f64 f] w' (RetE w' (.float .f64 f))) (o1 : (Ieee.double.order f f != some .eq) = true) : Calls Tryd.prog 7 #[.float .f64 f, .agg #[.bool nbd, Md, .int .i64 jd]] w (RetE w (.bool true)) := by
  have hff0 : FloatKind.f64.format = Ieee.double := rfl
  have hff := ffrom_run
  have HO1 := Lib.hid (fun w' (T' : Tg w') => of_no w' f hf hno T')
  have HO2 := HO1
  have HX := Lib.hid hX
  clear hX hno
  clear rowd bdd hf
  go_enter Tryd.func7, Tryd.ntmps7
  go_wp2_with fail
  refine (headF_any _ (T.ext ((Ext.refl w).alloc _))).mono ?_
  rintro _ w1 ⟨rfl, f1⟩
  have Bd : Box w1 (w.heap.size) (.bool nbd) Md (.int .i64 jd) := Box.at ((Ext.refl _).trans f1) (by simp)
  have e1 : Ext w w1 := ((Ext.refl w).alloc _).trans f1
  replace T := T.ext e1
  have E1 : Ext w w1 := (Ext.refl w).trans e1
  clear f1 e1
  go_wp2_with fail
  refine (HO1.out _ T).mono ?_
  rintro _ w2 ⟨vm, rfl, nm, f2⟩
  have e2 : Ext w1 w2 := (Ext.refl w1).trans f2
  replace T := T.ext e2
  replace Bd := Bd.ext e2
  have E2 : Ext w w2 := E1.trans e2
  clear f2 e2 E1
  obtain ⟨bm, Am, lm, cm, jjm, rfl⟩ := nm.form
  go_wp2_with fail
  refine (HX.out _ (T.ext ((Ext.refl w2).alloc _))).mono ?_
  rintro _ w3 ⟨rfl, f3⟩
  have Bm : Box w3 (w2.heap.size) (.bool bm) (.slice Am lm cm) (.int .i64 jjm) := Box.at ((Ext.refl _).trans f3) (by simp)
  have e3 : Ext w2 w3 := ((Ext.refl w2).alloc _).trans f3
  replace T := T.ext e3
  replace Bd := Bd.ext e3
  have E3 : Ext w w3 := E2.trans e3
  clear f3 e3 E2
  go_wp2_with fail
  refine (HO2.out _ T).mono ?_
  rintro _ w4 ⟨vn, rfl, nn, f4⟩
  have e4 : Ext w3 w4 := (Ext.refl w3).trans f4
  replace T := T.ext e4
  replace Bd := Bd.ext e4
  replace Bm := Bm.ext e4
  have E4 : Ext w w4 := E3.trans e4
  clear f4 e4 E3
  obtain ⟨bn, An, ln, cn, jjn, rfl⟩ := nn.form
  go_wp2
  go_ret
  exact ⟨rfl, (E4.trans ((Ext.refl w4).alloc _))⟩

set_option maxRecDepth 10000 in
set_option maxHeartbeats 2000000 in
theorem nx_inf (w : World) (T : Tg w) (f : Nat) (hf : f < 18446744073709551616) (nbd : Bool) (Md : Value) (xd : List Int) (jd : Int) (rowd : Row w Md xd) (bdd : -9223372036854775808 ≤ jd ∧ jd ≤ 9223372036854775807) (hno : 9218868437227405312 ≤ frung f) (hX : ∀ w' : World, Tg w' → Calls Tryd.prog 15 #[.float .f64 f] w' (RetE w' (.float .f64 f))) (o1 : (Ieee.double.order f f != some .eq) = false) (o2 : (Ieee.double.order f 0 == some .gt) = true) (o3 : (Ieee.double.order f f == some .eq) = true) : Calls Tryd.prog 7 #[.float .f64 f, .agg #[.bool nbd, Md, .int .i64 jd]] w (RetE w (.bool true)) := by
  have hff0 : FloatKind.f64.format = Ieee.double := rfl
  have hff := ffrom_run
  have HO1 := Lib.hid (fun w' (T' : Tg w') => of_no w' f hf hno T')
  have HO2 := HO1
  have HX := Lib.hid hX
  clear hX hno
  clear rowd bdd hf
  go_enter Tryd.func7, Tryd.ntmps7
  go_wp2_with fail
  refine (headF_any _ (T.ext ((Ext.refl w).alloc _))).mono ?_
  rintro _ w1 ⟨rfl, f1⟩
  have Bd : Box w1 (w.heap.size) (.bool nbd) Md (.int .i64 jd) := Box.at ((Ext.refl _).trans f1) (by simp)
  have e1 : Ext w w1 := ((Ext.refl w).alloc _).trans f1
  replace T := T.ext e1
  have E1 : Ext w w1 := (Ext.refl w).trans e1
  clear f1 e1
  go_wp2_with fail
  refine (HO1.out _ T).mono ?_
  rintro _ w2 ⟨vm, rfl, nm, f2⟩
  have e2 : Ext w1 w2 := (Ext.refl w1).trans f2
  replace T := T.ext e2
  replace Bd := Bd.ext e2
  have E2 : Ext w w2 := E1.trans e2
  clear f2 e2 E1
  obtain ⟨bm, Am, lm, cm, jjm, rfl⟩ := nm.form
  go_wp2_with fail
  refine (HX.out _ (T.ext ((Ext.refl w2).alloc _))).mono ?_
  rintro _ w3 ⟨rfl, f3⟩
  have Bm : Box w3 (w2.heap.size) (.bool bm) (.slice Am lm cm) (.int .i64 jjm) := Box.at ((Ext.refl _).trans f3) (by simp)
  have e3 : Ext w2 w3 := ((Ext.refl w2).alloc _).trans f3
  replace T := T.ext e3
  replace Bd := Bd.ext e3
  have E3 : Ext w w3 := E2.trans e3
  clear f3 e3 E2
  go_wp2_with fail
  refine (HO2.out _ T).mono ?_
  rintro _ w4 ⟨vn, rfl, nn, f4⟩
  have e4 : Ext w3 w4 := (Ext.refl w3).trans f4
  replace T := T.ext e4
  replace Bd := Bd.ext e4
  replace Bm := Bm.ext e4
  have E4 : Ext w w4 := E3.trans e4
  clear f4 e4 E3
  obtain ⟨bn, An, ln, cn, jjn, rfl⟩ := nn.form
  go_wp2
  go_ret
  exact ⟨rfl, (E4.trans ((Ext.refl w4).alloc _))⟩

set_option maxRecDepth 10000 in
set_option maxHeartbeats 2000000 in
theorem nx_ninf (w : World) (T : Tg w) (f : Nat) (hf : f < 18446744073709551616) (nbd : Bool) (Md : Value) (xd : List Int) (jd : Int) (rowd : Row w Md xd) (bdd : -9223372036854775808 ≤ jd ∧ jd ≤ 9223372036854775807) (hno : 9218868437227405312 ≤ frung f) (g : Nat) (hg : g < 18446744073709551616) (hgF : Fin64 g) (hX : ∀ w' : World, Tg w' → Calls Tryd.prog 15 #[.float .f64 f] w' (RetE w' (.float .f64 g))) (o1 : (Ieee.double.order f f != some .eq) = false) (o2 : (Ieee.double.order f 0 == some .gt) = false) (o3 : (Ieee.double.order f 0 == some .lt) = true) (o4 : (Ieee.double.order g 18442240474082181119 == some .eq) = true) : Calls Tryd.prog 7 #[.float .f64 f, .agg #[.bool nbd, Md, .int .i64 jd]] w (RetE w (.bool true)) := by
  have hff0 : FloatKind.f64.format = Ieee.double := rfl
  have hff := ffrom_run
  have HO1 := Lib.hid (fun w' (T' : Tg w') => of_no w' f hf hno T')
  have HO2 := Lib.hid (fun w' (T' : Tg w') => of_fin w' g hg hgF T')
  have HX := Lib.hid hX
  clear hX hno hgF hg
  clear rowd bdd hf
  go_enter Tryd.func7, Tryd.ntmps7
  go_wp2_with fail
  refine (headF_any _ (T.ext ((Ext.refl w).alloc _))).mono ?_
  rintro _ w1 ⟨rfl, f1⟩
  have Bd : Box w1 (w.heap.size) (.bool nbd) Md (.int .i64 jd) := Box.at ((Ext.refl _).trans f1) (by simp)
  have e1 : Ext w w1 := ((Ext.refl w).alloc _).trans f1
  replace T := T.ext e1
  have E1 : Ext w w1 := (Ext.refl w).trans e1
  clear f1 e1
  go_wp2_with fail
  refine (HO1.out _ T).mono ?_
  rintro _ w2 ⟨vm, rfl, nm, f2⟩
  have e2 : Ext w1 w2 := (Ext.refl w1).trans f2
  replace T := T.ext e2
  replace Bd := Bd.ext e2
  have E2 : Ext w w2 := E1.trans e2
  clear f2 e2 E1
  obtain ⟨bm, Am, lm, cm, jjm, rfl⟩ := nm.form
  go_wp2_with fail
  refine (HX.out _ (T.ext ((Ext.refl w2).alloc _))).mono ?_
  rintro _ w3 ⟨rfl, f3⟩
  have Bm : Box w3 (w2.heap.size) (.bool bm) (.slice Am lm cm) (.int .i64 jjm) := Box.at ((Ext.refl _).trans f3) (by simp)
  have e3 : Ext w2 w3 := ((Ext.refl w2).alloc _).trans f3
  replace T := T.ext e3
  replace Bd := Bd.ext e3
  have E3 : Ext w w3 := E2.trans e3
  clear f3 e3 E2
  go_wp2_with fail
  refine (HO2.out _ T).mono ?_
  rintro _ w4 ⟨vn, rfl, nn, f4⟩
  have e4 : Ext w3 w4 := (Ext.refl w3).trans f4
  replace T := T.ext e4
  replace Bd := Bd.ext e4
  replace Bm := Bm.ext e4
  have E4 : Ext w w4 := E3.trans e4
  clear f4 e4 E3
  obtain ⟨bn, An, ln, cn, jjn, rfl⟩ := nn.form
  go_wp2
  go_ret
  exact ⟨rfl, (E4.trans ((Ext.refl w4).alloc _))⟩

set_option maxRecDepth 10000 in
set_option maxHeartbeats 2000000 in
theorem nx_max (w : World) (T : Tg w) (f : Nat) (hf : f < 18446744073709551616) (nbd : Bool) (Md : Value) (xd : List Int) (jd : Int) (rowd : Row w Md xd) (bdd : -9223372036854775808 ≤ jd ∧ jd ≤ 9223372036854775807) (hfF : Fin64 f) (g : Nat) (hg : g < 18446744073709551616) (hgN : 9218868437227405312 ≤ frung g) (hX : ∀ w' : World, Tg w' → Calls Tryd.prog 15 #[.float .f64 f] w' (RetE w' (.float .f64 g))) (o1 : (Ieee.double.order f 9218868437227405311 == some .eq) = true) (o2 : (Ieee.double.order g f == some .gt) = true) : Calls Tryd.prog 7 #[.float .f64 f, .agg #[.bool nbd, Md, .int .i64 jd]] w (RetE w (.bool true)) := by
  have hff0 : FloatKind.f64.format = Ieee.double := rfl
  have hff := ffrom_run
  have HO1 := Lib.hid (fun w' (T' : Tg w') => of_fin w' f hf hfF T')
  have HO2 := Lib.hid (fun w' (T' : Tg w') => of_no w' g hg hgN T')
  have HX := Lib.hid hX
  clear hX hgN hfF hg
  clear rowd bdd hf
  go_enter Tryd.func7, Tryd.ntmps7
  go_wp2_with fail
  refine (headF_any _ (T.ext ((Ext.refl w).alloc _))).mono ?_
  rintro _ w1 ⟨rfl, f1⟩
  have Bd : Box w1 (w.heap.size) (.bool nbd) Md (.int .i64 jd) := Box.at ((Ext.refl _).trans f1) (by simp)
  have e1 : Ext w w1 := ((Ext.refl w).alloc _).trans f1
  replace T := T.ext e1
  have E1 : Ext w w1 := (Ext.refl w).trans e1
  clear f1 e1
  go_wp2_with fail
  refine (HO1.out _ T).mono ?_
  rintro _ w2 ⟨vm, rfl, nm, f2⟩
  have e2 : Ext w1 w2 := (Ext.refl w1).trans f2
  replace T := T.ext e2
  replace Bd := Bd.ext e2
  have E2 : Ext w w2 := E1.trans e2
  clear f2 e2 E1
  obtain ⟨bm, Am, lm, cm, jjm, rfl⟩ := nm.form
  go_wp2_with fail
  refine (HX.out _ (T.ext ((Ext.refl w2).alloc _))).mono ?_
  rintro _ w3 ⟨rfl, f3⟩
  have Bm : Box w3 (w2.heap.size) (.bool bm) (.slice Am lm cm) (.int .i64 jjm) := Box.at ((Ext.refl _).trans f3) (by simp)
  have e3 : Ext w2 w3 := ((Ext.refl w2).alloc _).trans f3
  replace T := T.ext e3
  replace Bd := Bd.ext e3
  have E3 : Ext w w3 := E2.trans e3
  clear f3 e3 E2
  go_wp2_with fail
  refine (HO2.out _ T).mono ?_
  rintro _ w4 ⟨vn, rfl, nn, f4⟩
  have e4 : Ext w3 w4 := (Ext.refl w3).trans f4
  replace T := T.ext e4
  replace Bd := Bd.ext e4
  replace Bm := Bm.ext e4
  have E4 : Ext w w4 := E3.trans e4
  clear f4 e4 E3
  obtain ⟨bn, An, ln, cn, jjn, rfl⟩ := nn.form
  go_wp2
  go_ret
  exact ⟨rfl, (E4.trans ((Ext.refl w4).alloc _))⟩

/-- Where a number lies to two doubles side by side, and which is nearest. -/
theorem nx_cases {d D1 D2 Hf : Dyadic} {x : Nat} {k : Int} (hx : Rn d x) (q1 : D1 = kval k) (q2 : D2 = kval (k + 1)) (hlt : D1 < D2) (hH : Hf + Hf = D1 + D2) (hkb : -9218868437227405312 ≤ k ∧ k < 9218868437227405312) :
    (cmpD d D1 = -1 ∧ cmpD d Hf = -1 ∧ cmpD d D2 = -1) ∨ (cmpD d D1 = 0 ∧ cmpD d Hf = -1 ∧ cmpD d D2 = -1 ∧ fkey x = k) ∨ (cmpD d D1 = 1 ∧ cmpD d Hf = -1 ∧ cmpD d D2 = -1 ∧ fkey x = k) ∨
    (cmpD d D1 = 1 ∧ cmpD d Hf = 0 ∧ cmpD d D2 = -1 ∧ fkey x = k) ∨ (cmpD d D1 = 1 ∧ cmpD d Hf = 0 ∧ cmpD d D2 = -1 ∧ fkey x = k + 1) ∨ (cmpD d D1 = 1 ∧ cmpD d Hf = 1 ∧ cmpD d D2 = -1 ∧ fkey x = k + 1) ∨
    (cmpD d D1 = 1 ∧ cmpD d Hf = 1 ∧ cmpD d D2 = 0 ∧ fkey x = k + 1) ∨ (cmpD d D1 = 1 ∧ cmpD d Hf = 1 ∧ cmpD d D2 = 1) := by
  have h1 : D1 < Hf := by grind
  have h2 : Hf < D2 := by grind
  by_cases a1 : d < D1
  · left; exact ⟨cmpD_l a1, cmpD_l (by grind), cmpD_l (by grind)⟩
  · by_cases a2 : d = D1
    · right; left
      exact ⟨cmpD_e a2, cmpD_l (by grind), cmpD_l (by grind), key_low hx (by rw [← q1]; grind) (by rw [← q1, ← q2]; grind) hkb⟩
    · have b1 : D1 < d := by grind
      by_cases a3 : d < Hf
      · right; right; left
        exact ⟨cmpD_g b1, cmpD_l a3, cmpD_l (by grind), key_low hx (by rw [← q1]; grind) (by rw [← q1, ← q2]; grind) hkb⟩
      · by_cases a4 : d = Hf
        · rcases key_between hx (by rw [← q1]; grind) (by rw [← q2]; grind) hkb with e | e
          · right; right; right; left; exact ⟨cmpD_g b1, cmpD_e a4, cmpD_l (by grind), e⟩
          · right; right; right; right; left; exact ⟨cmpD_g b1, cmpD_e a4, cmpD_l (by grind), e⟩
        · have b2 : Hf < d := by grind
          by_cases a5 : d < D2
          · right; right; right; right; right; left
            exact ⟨cmpD_g b1, cmpD_g b2, cmpD_l a5, key_high hx (by rw [← q2]; grind) (by rw [← q1, ← q2]; grind) hkb⟩
          · by_cases a6 : d = D2
            · right; right; right; right; right; right; left
              exact ⟨cmpD_g b1, cmpD_g b2, cmpD_e a6, key_high hx (by rw [← q2]; grind) (by rw [← q1, ← q2]; grind) hkb⟩
            · right; right; right; right; right; right; right
              exact ⟨cmpD_g b1, cmpD_g b2, cmpD_g (by grind)⟩

set_option maxRecDepth 10000 in
set_option maxHeartbeats 2000000 in
theorem nx_bad (w : World) (T : Tg w) (f : Nat) (hf : f < 18446744073709551616) (nbd : Bool) (Md : Value) (xd : List Int) (jd : Int) (rowd : Row w Md xd) (bdd : -9223372036854775808 ≤ jd ∧ jd ≤ 9223372036854775807) (hfF : Fin64 f) (g : Nat) (hg : g < 18446744073709551616) (hgF : Fin64 g) (hX : ∀ w' : World, Tg w' → Calls Tryd.prog 15 #[.float .f64 f] w' (RetE w' (.float .f64 g))) (hk : fkey g = fkey f + 1) (hgd : goodF nbd xd jd = false) : Calls Tryd.prog 7 #[.float .f64 f, .agg #[.bool nbd, Md, .int .i64 jd]] w (RetE w (.bool true)) := by
  have hff0 : FloatKind.f64.format = Ieee.double := rfl
  have hff := ffrom_run
  have HGd : Hid (∀ w' : World, Ext w w' → Calls Tryd.prog 17 #[.agg #[.bool nbd, Md, .int .i64 jd]] w' (RetE w' (.bool false))) := Lib.hid (fun w' hE => hgd ▸ goodF_any w' nbd Md xd jd (rowd.ext hE) bdd)
  have HO1 := Lib.hid (fun w' (T' : Tg w') => of_fin w' f hf hfF T')
  have HO2 := Lib.hid (fun w' (T' : Tg w') => of_fin w' g hg hgF T')
  have HX := Lib.hid hX
  have hkb : -9218868437227405312 ≤ fkey f ∧ fkey f < 9218868437227405312 := by have := fin_key hfF; omega
  have o0 := ord_gt hgF.num hfF.num (by omega : fkey f < fkey g)
  have q1 : fval f = kval (fkey f) := fval_key f
  have q2 : fval g = kval (fkey f + 1) := by rw [← hk]; exact fval_key g
  have hlt : fval f < fval g := by rw [q1, q2]; exact kval_lt (by omega)
  have rs := (rg_fin hfF).add (rg_fin hgF)
  have rh : Rg 1075 1027 ((fval f + fval g) * dy 1 (-1)) := rs.mul (Rg.pow (k := -1) (K := 1) (by omega))
  have hnbS : Nb (fval f + fval g) := Nb.of_rg rs (by omega) (by omega)
  have hnbH : Nb ((fval f + fval g) * dy 1 (-1)) := Nb.of_rg rh (by omega) (by omega)
  have rwH : Rw ((fval f + fval g) * dy 1 (-1)) := rh.mono (by omega) (by omega)
  have rw1 := fin_rw hfF
  have rw2 := fin_rw hgF
  have hH := half_twice (fval f + fval g)
  have HAD := Lib.hid (fun w' va vb (ha : Dn w' va (fval f)) (hb : Dn w' vb (fval g)) => raddD_any w' va vb _ _ 3000 3500 ha hb rw1 rw2 (by omega))
  have HSH := Lib.hid (fun w' v (h : Dn w' v (fval f + fval g)) => shift_half w' v _ h hnbS)
  have HNH := Lib.hid (fun w' v (h : Dn w' v ((fval f + fval g) * dy 1 (-1))) (T' : Tg w') => near_nb w' v _ h hnbH T')
  have hnf := hfF.num
  have hng := hgF.num
  generalize (fval f + fval g) * dy 1 (-1) = Hf at *
  generalize hD1 : fval f = D1 at *
  generalize hD2 : fval g = D2 at *
  have HM := Lib.hid (And.intro q1 (And.intro q2 (And.intro hlt (And.intro hH (And.intro hk hkb)))))
  have HNN := Lib.hid (And.intro hnf hng)
  clear hgd rowd bdd hf hg hX hfF hgF rs rh hnbS hnbH rwH rw1 rw2 hD1 hD2 q1 q2 hlt hH hk hkb hnf hng
  go_enter Tryd.func7, Tryd.ntmps7
  go_wp2_with fail
  refine (headF_any _ (T.ext ((Ext.refl w).alloc _))).mono ?_
  rintro _ w1 ⟨rfl, f1⟩
  have Bd : Box w1 (w.heap.size) (.bool nbd) Md (.int .i64 jd) := Box.at ((Ext.refl _).trans f1) (by simp)
  have e1 : Ext w w1 := ((Ext.refl w).alloc _).trans f1
  replace T := T.ext e1
  have E1 : Ext w w1 := (Ext.refl w).trans e1
  clear f1 e1
  go_wp2_with fail
  refine (HO1.out _ T).mono ?_
  rintro _ w2 ⟨vm, rfl, nm, f2⟩
  have e2 : Ext w1 w2 := (Ext.refl w1).trans f2
  replace T := T.ext e2
  replace Bd := Bd.ext e2
  have E2 : Ext w w2 := E1.trans e2
  clear f2 e2 E1
  obtain ⟨bm, Am, lm, cm, jjm, rfl⟩ := nm.form
  go_wp2_with fail
  refine (HX.out _ (T.ext ((Ext.refl w2).alloc _))).mono ?_
  rintro _ w3 ⟨rfl, f3⟩
  have Bm : Box w3 (w2.heap.size) (.bool bm) (.slice Am lm cm) (.int .i64 jjm) := Box.at ((Ext.refl _).trans f3) (by simp)
  have e3 : Ext w2 w3 := ((Ext.refl w2).alloc _).trans f3
  replace T := T.ext e3
  replace nm := nm.ext e3
  replace Bd := Bd.ext e3
  have E3 : Ext w w3 := E2.trans e3
  clear f3 e3 E2
  go_wp2_with fail
  refine (HO2.out _ T).mono ?_
  rintro _ w4 ⟨vn, rfl, nn, f4⟩
  have e4 : Ext w3 w4 := (Ext.refl w3).trans f4
  replace T := T.ext e4
  replace nm := nm.ext e4
  replace Bd := Bd.ext e4
  replace Bm := Bm.ext e4
  have E4 : Ext w w4 := E3.trans e4
  clear f4 e4 E3
  obtain ⟨bn, An, ln, cn, jjn, rfl⟩ := nn.form
  obtain ⟨Bm_0, Bm_1, Bm_2⟩ := id Bm
  have Bm_l := World.block_lt_of_cell? _ _ Bm_0
  go_wp2_with fail
  refine (HAD.out _ _ _ (nm.ext ((Ext.refl w4).alloc _)) (nn.ext ((Ext.refl w4).alloc _))).mono ?_
  rintro _ w5 ⟨vs, rfl, ns, f5⟩
  clear Bm_0 Bm_1 Bm_2 Bm_l
  have Bn : Box w5 (w4.heap.size) (.bool bn) (.slice An ln cn) (.int .i64 jjn) := Box.at ((Ext.refl _).trans f5) (by simp)
  have e5 : Ext w4 w5 := ((Ext.refl w4).alloc _).trans f5
  replace T := T.ext e5
  replace nm := nm.ext e5
  replace nn := nn.ext e5
  replace Bd := Bd.ext e5
  replace Bm := Bm.ext e5
  have E5 : Ext w w5 := E4.trans e5
  clear f5 e5 E4
  go_wp2_with fail
  refine (HSH.out _ _ ns).mono ?_
  rintro _ w6 ⟨vh, rfl, nh, f6⟩
  have e6 : Ext w5 w6 := (Ext.refl w5).trans f6
  replace T := T.ext e6
  replace nm := nm.ext e6
  replace nn := nn.ext e6
  replace ns := ns.ext e6
  replace Bd := Bd.ext e6
  replace Bm := Bm.ext e6
  replace Bn := Bn.ext e6
  have E6 : Ext w w6 := E5.trans e6
  clear f6 e6 E5
  obtain ⟨bh, Ah, lh, ch, jjh, rfl⟩ := nh.form
  go_wp2_with fail
  refine (HNH.out _ _ (nh.ext ((Ext.refl w6).alloc _)) (T.ext ((Ext.refl w6).alloc _))).mono ?_
  rintro _ w7 ⟨q, rfl, hq, f7⟩
  have Bh : Box w7 (w6.heap.size) (.bool bh) (.slice Ah lh ch) (.int .i64 jjh) := Box.at ((Ext.refl _).trans f7) (by simp)
  have e7 : Ext w6 w7 := ((Ext.refl w6).alloc _).trans f7
  replace T := T.ext e7
  replace nm := nm.ext e7
  replace nn := nn.ext e7
  replace nh := nh.ext e7
  replace Bd := Bd.ext e7
  replace Bm := Bm.ext e7
  replace Bn := Bn.ext e7
  have E7 : Ext w w7 := E6.trans e7
  clear f7 e7 E6
  obtain ⟨nf, ng⟩ := HNN.out
  have hqn := hq.num
  have hqk : fkey q = fkey f ∨ fkey q = fkey f + 1 := by
    obtain ⟨q1, q2, hlt, hH, hk, hkb⟩ := HM.out
    exact key_between hq (by rw [← q1]; grind) (by rw [← q2]; grind) hkb
  clear hq
  rcases hqk with hqk | hqk
  · have p1 := ord_nn hqn nf hqk
    clear hqk hqn
    clear nf ng
    obtain ⟨Bd_0, Bd_1, Bd_2⟩ := id Bd
    have Bd_l := World.block_lt_of_cell? _ _ Bd_0
    go_wp2_with fail
    refine (HGd.out _ E7).mono ?_
    rintro _ w8 ⟨rfl, f8⟩
    clear Bd_0 Bd_1 Bd_2 Bd_l
    have e8 : Ext w7 w8 := (Ext.refl w7).trans f8
    replace T := T.ext e8
    replace nm := nm.ext e8
    replace nn := nn.ext e8
    replace nh := nh.ext e8
    replace Bd := Bd.ext e8
    replace Bm := Bm.ext e8
    replace Bn := Bn.ext e8
    replace Bh := Bh.ext e8
    have E8 : Ext w w8 := E7.trans e8
    clear f8 e8 E7
    go_wp2
    go_ret
    exact ⟨rfl, E8⟩
  · have p1 := ord_nne hqn nf (by omega)
    have p2 := ord_nn hqn ng (by rw [hqk, HM.out.2.2.2.2.1])
    clear hqk hqn
    clear nf ng
    obtain ⟨Bd_0, Bd_1, Bd_2⟩ := id Bd
    have Bd_l := World.block_lt_of_cell? _ _ Bd_0
    go_wp2_with fail
    refine (HGd.out _ E7).mono ?_
    rintro _ w8 ⟨rfl, f8⟩
    clear Bd_0 Bd_1 Bd_2 Bd_l
    have e8 : Ext w7 w8 := (Ext.refl w7).trans f8
    replace T := T.ext e8
    replace nm := nm.ext e8
    replace nn := nn.ext e8
    replace nh := nh.ext e8
    replace Bd := Bd.ext e8
    replace Bm := Bm.ext e8
    replace Bn := Bn.ext e8
    replace Bh := Bh.ext e8
    have E8 : Ext w w8 := E7.trans e8
    clear f8 e8 E7
    go_wp2
    go_ret
    exact ⟨rfl, E8⟩

set_option maxRecDepth 10000 in
set_option maxHeartbeats 8000000 in
theorem nx_good (w : World) (T : Tg w) (f : Nat) (hf : f < 18446744073709551616) (nbd : Bool) (Md : Value) (xd : List Int) (jd : Int) (rowd : Row w Md xd) (bdd : -9223372036854775808 ≤ jd ∧ jd ≤ 9223372036854775807) (hfF : Fin64 f) (g : Nat) (hg : g < 18446744073709551616) (hgF : Fin64 g) (hX : ∀ w' : World, Tg w' → Calls Tryd.prog 15 #[.float .f64 f] w' (RetE w' (.float .f64 g))) (hk : fkey g = fkey f + 1) (hgd : goodF nbd xd jd = true) : Calls Tryd.prog 7 #[.float .f64 f, .agg #[.bool nbd, Md, .int .i64 jd]] w (RetE w (.bool true)) := by
  have hff0 : FloatKind.f64.format = Ieee.double := rfl
  have hff := ffrom_run
  have HGd : Hid (∀ w' : World, Ext w w' → Calls Tryd.prog 17 #[.agg #[.bool nbd, Md, .int .i64 jd]] w' (RetE w' (.bool true))) := Lib.hid (fun w' hE => hgd ▸ goodF_any w' nbd Md xd jd (rowd.ext hE) bdd)
  have HO1 := Lib.hid (fun w' (T' : Tg w') => of_fin w' f hf hfF T')
  have HO2 := Lib.hid (fun w' (T' : Tg w') => of_fin w' g hg hgF T')
  have HX := Lib.hid hX
  have hkb : -9218868437227405312 ≤ fkey f ∧ fkey f < 9218868437227405312 := by have := fin_key hfF; omega
  have o0 := ord_gt hgF.num hfF.num (by omega : fkey f < fkey g)
  have q1 : fval f = kval (fkey f) := fval_key f
  have q2 : fval g = kval (fkey f + 1) := by rw [← hk]; exact fval_key g
  have hlt : fval f < fval g := by rw [q1, q2]; exact kval_lt (by omega)
  have rs := (rg_fin hfF).add (rg_fin hgF)
  have rh : Rg 1075 1027 ((fval f + fval g) * dy 1 (-1)) := rs.mul (Rg.pow (k := -1) (K := 1) (by omega))
  have hnbS : Nb (fval f + fval g) := Nb.of_rg rs (by omega) (by omega)
  have hnbH : Nb ((fval f + fval g) * dy 1 (-1)) := Nb.of_rg rh (by omega) (by omega)
  have rwH : Rw ((fval f + fval g) * dy 1 (-1)) := rh.mono (by omega) (by omega)
  have rw1 := fin_rw hfF
  have rw2 := fin_rw hgF
  have hH := half_twice (fval f + fval g)
  have HAD := Lib.hid (fun w' va vb (ha : Dn w' va (fval f)) (hb : Dn w' vb (fval g)) => raddD_any w' va vb _ _ 3000 3500 ha hb rw1 rw2 (by omega))
  have HSH := Lib.hid (fun w' v (h : Dn w' v (fval f + fval g)) => shift_half w' v _ h hnbS)
  have HNH := Lib.hid (fun w' v (h : Dn w' v ((fval f + fval g) * dy 1 (-1))) (T' : Tg w') => near_nb w' v _ h hnbH T')
  have hnf := hfF.num
  have hng := hgF.num
  obtain ⟨d, nd, hnb, hrw⟩ := goodF_dn rowd hgd
  have HND := Lib.hid (fun w' v (h : Dn w' v d) (T' : Tg w') => near_nb w' v d h hnb T')
  have HC1 := Lib.hid (fun w' va vb (ha : Dn w' va d) (hb : Dn w' vb (fval f)) => rcmpD_any w' va vb _ _ 3000 3500 ha hb hrw rw1 (by omega))
  have HC2 := Lib.hid (fun w' va vb (ha : Dn w' va d) (hb : Dn w' vb (fval g)) => rcmpD_any w' va vb _ _ 3000 3500 ha hb hrw rw2 (by omega))
  have HCH := Lib.hid (fun w' va vb (ha : Dn w' va d) (hb : Dn w' vb ((fval f + fval g) * dy 1 (-1))) => rcmpD_any w' va vb _ _ 3000 3500 ha hb hrw rwH (by omega))
  clear hnb hrw
  generalize (fval f + fval g) * dy 1 (-1) = Hf at *
  generalize hD1 : fval f = D1 at *
  generalize hD2 : fval g = D2 at *
  have HM := Lib.hid (And.intro q1 (And.intro q2 (And.intro hlt (And.intro hH (And.intro hk hkb)))))
  have HNN := Lib.hid (And.intro hnf hng)
  clear hgd rowd bdd hf hg hX hfF hgF rs rh hnbS hnbH rwH rw1 rw2 hD1 hD2 q1 q2 hlt hH hk hkb hnf hng
  go_enter Tryd.func7, Tryd.ntmps7
  go_wp2_with fail
  refine (headF_any _ (T.ext ((Ext.refl w).alloc _))).mono ?_
  rintro _ w1 ⟨rfl, f1⟩
  have Bd : Box w1 (w.heap.size) (.bool nbd) Md (.int .i64 jd) := Box.at ((Ext.refl _).trans f1) (by simp)
  have e1 : Ext w w1 := ((Ext.refl w).alloc _).trans f1
  replace T := T.ext e1
  have E1 : Ext w w1 := (Ext.refl w).trans e1
  clear f1 e1
  replace nd := nd.ext E1
  go_wp2_with fail
  refine (HO1.out _ T).mono ?_
  rintro _ w2 ⟨vm, rfl, nm, f2⟩
  have e2 : Ext w1 w2 := (Ext.refl w1).trans f2
  replace T := T.ext e2
  replace nd := nd.ext e2
  replace Bd := Bd.ext e2
  have E2 : Ext w w2 := E1.trans e2
  clear f2 e2 E1
  obtain ⟨bm, Am, lm, cm, jjm, rfl⟩ := nm.form
  go_wp2_with fail
  refine (HX.out _ (T.ext ((Ext.refl w2).alloc _))).mono ?_
  rintro _ w3 ⟨rfl, f3⟩
  have Bm : Box w3 (w2.heap.size) (.bool bm) (.slice Am lm cm) (.int .i64 jjm) := Box.at ((Ext.refl _).trans f3) (by simp)
  have e3 : Ext w2 w3 := ((Ext.refl w2).alloc _).trans f3
  replace T := T.ext e3
  replace nd := nd.ext e3
  replace nm := nm.ext e3
  replace Bd := Bd.ext e3
  have E3 : Ext w w3 := E2.trans e3
  clear f3 e3 E2
  go_wp2_with fail
  refine (HO2.out _ T).mono ?_
  rintro _ w4 ⟨vn, rfl, nn, f4⟩
  have e4 : Ext w3 w4 := (Ext.refl w3).trans f4
  replace T := T.ext e4
  replace nd := nd.ext e4
  replace nm := nm.ext e4
  replace Bd := Bd.ext e4
  replace Bm := Bm.ext e4
  have E4 : Ext w w4 := E3.trans e4
  clear f4 e4 E3
  obtain ⟨bn, An, ln, cn, jjn, rfl⟩ := nn.form
  obtain ⟨Bm_0, Bm_1, Bm_2⟩ := id Bm
  have Bm_l := World.block_lt_of_cell? _ _ Bm_0
  go_wp2_with fail
  refine (HAD.out _ _ _ (nm.ext ((Ext.refl w4).alloc _)) (nn.ext ((Ext.refl w4).alloc _))).mono ?_
  rintro _ w5 ⟨vs, rfl, ns, f5⟩
  clear Bm_0 Bm_1 Bm_2 Bm_l
  have Bn : Box w5 (w4.heap.size) (.bool bn) (.slice An ln cn) (.int .i64 jjn) := Box.at ((Ext.refl _).trans f5) (by simp)
  have e5 : Ext w4 w5 := ((Ext.refl w4).alloc _).trans f5
  replace T := T.ext e5
  replace nd := nd.ext e5
  replace nm := nm.ext e5
  replace nn := nn.ext e5
  replace Bd := Bd.ext e5
  replace Bm := Bm.ext e5
  have E5 : Ext w w5 := E4.trans e5
  clear f5 e5 E4
  go_wp2_with fail
  refine (HSH.out _ _ ns).mono ?_
  rintro _ w6 ⟨vh, rfl, nh, f6⟩
  have e6 : Ext w5 w6 := (Ext.refl w5).trans f6
  replace T := T.ext e6
  replace nd := nd.ext e6
  replace nm := nm.ext e6
  replace nn := nn.ext e6
  replace ns := ns.ext e6
  replace Bd := Bd.ext e6
  replace Bm := Bm.ext e6
  replace Bn := Bn.ext e6
  have E6 : Ext w w6 := E5.trans e6
  clear f6 e6 E5
  obtain ⟨bh, Ah, lh, ch, jjh, rfl⟩ := nh.form
  go_wp2_with fail
  refine (HNH.out _ _ (nh.ext ((Ext.refl w6).alloc _)) (T.ext ((Ext.refl w6).alloc _))).mono ?_
  rintro _ w7 ⟨q, rfl, hq, f7⟩
  have Bh : Box w7 (w6.heap.size) (.bool bh) (.slice Ah lh ch) (.int .i64 jjh) := Box.at ((Ext.refl _).trans f7) (by simp)
  have e7 : Ext w6 w7 := ((Ext.refl w6).alloc _).trans f7
  replace T := T.ext e7
  replace nd := nd.ext e7
  replace nm := nm.ext e7
  replace nn := nn.ext e7
  replace nh := nh.ext e7
  replace Bd := Bd.ext e7
  replace Bm := Bm.ext e7
  replace Bn := Bn.ext e7
  have E7 : Ext w w7 := E6.trans e7
  clear f7 e7 E6
  obtain ⟨nf, ng⟩ := HNN.out
  have hqn := hq.num
  have hqk : fkey q = fkey f ∨ fkey q = fkey f + 1 := by
    obtain ⟨q1, q2, hlt, hH, hk, hkb⟩ := HM.out
    exact key_between hq (by rw [← q1]; grind) (by rw [← q2]; grind) hkb
  clear hq
  rcases hqk with hqk | hqk
  · have p1 := ord_nn hqn nf hqk
    clear hqk hqn
    obtain ⟨Bd_0, Bd_1, Bd_2⟩ := id Bd
    have Bd_l := World.block_lt_of_cell? _ _ Bd_0
    go_wp2_with fail
    refine (HGd.out _ E7).mono ?_
    rintro _ w8 ⟨rfl, f8⟩
    clear Bd_0 Bd_1 Bd_2 Bd_l
    have e8 : Ext w7 w8 := (Ext.refl w7).trans f8
    replace T := T.ext e8
    replace nd := nd.ext e8
    replace nm := nm.ext e8
    replace nn := nn.ext e8
    replace nh := nh.ext e8
    replace Bd := Bd.ext e8
    replace Bm := Bm.ext e8
    replace Bn := Bn.ext e8
    replace Bh := Bh.ext e8
    have E8 : Ext w w8 := E7.trans e8
    clear f8 e8 E7
    obtain ⟨Bd_0, Bd_1, Bd_2⟩ := id Bd
    have Bd_l := World.block_lt_of_cell? _ _ Bd_0
    go_wp2_with fail
    refine (HND.out _ _ nd T).mono ?_
    rintro _ w9 ⟨x, rfl, hx, f9⟩
    clear Bd_0 Bd_1 Bd_2 Bd_l
    have e9 : Ext w8 w9 := (Ext.refl w8).trans f9
    replace T := T.ext e9
    replace nd := nd.ext e9
    replace nm := nm.ext e9
    replace nn := nn.ext e9
    replace nh := nh.ext e9
    replace Bd := Bd.ext e9
    replace Bm := Bm.ext e9
    replace Bn := Bn.ext e9
    replace Bh := Bh.ext e9
    have E9 : Ext w w9 := E8.trans e9
    clear f9 e9 E8
    have hxn := hx.num
    have hxc := nx_cases hx HM.out.1 HM.out.2.1 HM.out.2.2.1 HM.out.2.2.2.1 HM.out.2.2.2.2.2
    clear hx
    rcases hxc with ⟨t1, th, t2⟩ | ⟨t1, th, t2, kx⟩ | ⟨t1, th, t2, kx⟩ | ⟨t1, th, t2, kx⟩ | ⟨t1, th, t2, kx⟩ | ⟨t1, th, t2, kx⟩ | ⟨t1, th, t2, kx⟩ | ⟨t1, th, t2⟩
    · have K1 := HC1; have K2 := HC2; have K3 := HCH
      rw [t1] at K1; rw [t2] at K2; rw [th] at K3
      clear t1 t2 th nf ng hxn
      obtain ⟨Bd_0, Bd_1, Bd_2⟩ := id Bd
      have Bd_l := World.block_lt_of_cell? _ _ Bd_0
      obtain ⟨Bm_0, Bm_1, Bm_2⟩ := id Bm
      have Bm_l := World.block_lt_of_cell? _ _ Bm_0
      go_wp2_with fail
      refine (K1.out _ _ _ nd nm).mono ?_
      rintro _ w10 ⟨rfl, f10⟩
      clear Bd_0 Bd_1 Bd_2 Bd_l Bm_0 Bm_1 Bm_2 Bm_l
      have e10 : Ext w9 w10 := (Ext.refl w9).trans f10
      replace T := T.ext e10
      replace nd := nd.ext e10
      replace nm := nm.ext e10
      replace nn := nn.ext e10
      replace nh := nh.ext e10
      replace Bd := Bd.ext e10
      replace Bm := Bm.ext e10
      replace Bn := Bn.ext e10
      replace Bh := Bh.ext e10
      have E10 : Ext w w10 := E9.trans e10
      clear f10 e10 E9
      obtain ⟨Bd_0, Bd_1, Bd_2⟩ := id Bd
      have Bd_l := World.block_lt_of_cell? _ _ Bd_0
      obtain ⟨Bm_0, Bm_1, Bm_2⟩ := id Bm
      have Bm_l := World.block_lt_of_cell? _ _ Bm_0
      go_wp2_with fail
      refine (K1.out _ _ _ nd nm).mono ?_
      rintro _ w11 ⟨rfl, f11⟩
      clear Bd_0 Bd_1 Bd_2 Bd_l Bm_0 Bm_1 Bm_2 Bm_l
      have e11 : Ext w10 w11 := (Ext.refl w10).trans f11
      replace T := T.ext e11
      replace nd := nd.ext e11
      replace nm := nm.ext e11
      replace nn := nn.ext e11
      replace nh := nh.ext e11
      replace Bd := Bd.ext e11
      replace Bm := Bm.ext e11
      replace Bn := Bn.ext e11
      replace Bh := Bh.ext e11
      have E11 : Ext w w11 := E10.trans e11
      clear f11 e11 E10
      obtain ⟨Bd_0, Bd_1, Bd_2⟩ := id Bd
      have Bd_l := World.block_lt_of_cell? _ _ Bd_0
      obtain ⟨Bh_0, Bh_1, Bh_2⟩ := id Bh
      have Bh_l := World.block_lt_of_cell? _ _ Bh_0
      go_wp2_with fail
      refine (K3.out _ _ _ nd nh).mono ?_
      rintro _ w12 ⟨rfl, f12⟩
      clear Bd_0 Bd_1 Bd_2 Bd_l Bh_0 Bh_1 Bh_2 Bh_l
      have e12 : Ext w11 w12 := (Ext.refl w11).trans f12
      replace T := T.ext e12
      replace nd := nd.ext e12
      replace nm := nm.ext e12
      replace nn := nn.ext e12
      replace nh := nh.ext e12
      replace Bd := Bd.ext e12
      replace Bm := Bm.ext e12
      replace Bn := Bn.ext e12
      replace Bh := Bh.ext e12
      have E12 : Ext w w12 := E11.trans e12
      clear f12 e12 E11
      go_wp2
      go_ret
      exact ⟨rfl, E12⟩
    · have p3 := order_key hxn nf kx
      have K1 := HC1; have K2 := HC2; have K3 := HCH
      rw [t1] at K1; rw [t2] at K2; rw [th] at K3
      clear t1 t2 th nf ng hxn kx
      obtain ⟨Bd_0, Bd_1, Bd_2⟩ := id Bd
      have Bd_l := World.block_lt_of_cell? _ _ Bd_0
      obtain ⟨Bm_0, Bm_1, Bm_2⟩ := id Bm
      have Bm_l := World.block_lt_of_cell? _ _ Bm_0
      go_wp2_with fail
      refine (K1.out _ _ _ nd nm).mono ?_
      rintro _ w10 ⟨rfl, f10⟩
      clear Bd_0 Bd_1 Bd_2 Bd_l Bm_0 Bm_1 Bm_2 Bm_l
      have e10 : Ext w9 w10 := (Ext.refl w9).trans f10
      replace T := T.ext e10
      replace nd := nd.ext e10
      replace nm := nm.ext e10
      replace nn := nn.ext e10
      replace nh := nh.ext e10
      replace Bd := Bd.ext e10
      replace Bm := Bm.ext e10
      replace Bn := Bn.ext e10
      replace Bh := Bh.ext e10
      have E10 : Ext w w10 := E9.trans e10
      clear f10 e10 E9
      obtain ⟨Bd_0, Bd_1, Bd_2⟩ := id Bd
      have Bd_l := World.block_lt_of_cell? _ _ Bd_0
      obtain ⟨Bn_0, Bn_1, Bn_2⟩ := id Bn
      have Bn_l := World.block_lt_of_cell? _ _ Bn_0
      go_wp2_with fail
      refine (K2.out _ _ _ nd nn).mono ?_
      rintro _ w11 ⟨rfl, f11⟩
      clear Bd_0 Bd_1 Bd_2 Bd_l Bn_0 Bn_1 Bn_2 Bn_l
      have e11 : Ext w10 w11 := (Ext.refl w10).trans f11
      replace T := T.ext e11
      replace nd := nd.ext e11
      replace nm := nm.ext e11
      replace nn := nn.ext e11
      replace nh := nh.ext e11
      replace Bd := Bd.ext e11
      replace Bm := Bm.ext e11
      replace Bn := Bn.ext e11
      replace Bh := Bh.ext e11
      have E11 : Ext w w11 := E10.trans e11
      clear f11 e11 E10
      obtain ⟨Bd_0, Bd_1, Bd_2⟩ := id Bd
      have Bd_l := World.block_lt_of_cell? _ _ Bd_0
      obtain ⟨Bm_0, Bm_1, Bm_2⟩ := id Bm
      have Bm_l := World.block_lt_of_cell? _ _ Bm_0
      go_wp2_with fail
      refine (K1.out _ _ _ nd nm).mono ?_
      rintro _ w12 ⟨rfl, f12⟩
      clear Bd_0 Bd_1 Bd_2 Bd_l Bm_0 Bm_1 Bm_2 Bm_l
      have e12 : Ext w11 w12 := (Ext.refl w11).trans f12
      replace T := T.ext e12
      replace nd := nd.ext e12
      replace nm := nm.ext e12
      replace nn := nn.ext e12
      replace nh := nh.ext e12
      replace Bd := Bd.ext e12
      replace Bm := Bm.ext e12
      replace Bn := Bn.ext e12
      replace Bh := Bh.ext e12
      have E12 : Ext w w12 := E11.trans e12
      clear f12 e12 E11
      obtain ⟨Bd_0, Bd_1, Bd_2⟩ := id Bd
      have Bd_l := World.block_lt_of_cell? _ _ Bd_0
      obtain ⟨Bh_0, Bh_1, Bh_2⟩ := id Bh
      have Bh_l := World.block_lt_of_cell? _ _ Bh_0
      go_wp2_with fail
      refine (K3.out _ _ _ nd nh).mono ?_
      rintro _ w13 ⟨rfl, f13⟩
      clear Bd_0 Bd_1 Bd_2 Bd_l Bh_0 Bh_1 Bh_2 Bh_l
      have e13 : Ext w12 w13 := (Ext.refl w12).trans f13
      replace T := T.ext e13
      replace nd := nd.ext e13
      replace nm := nm.ext e13
      replace nn := nn.ext e13
      replace nh := nh.ext e13
      replace Bd := Bd.ext e13
      replace Bm := Bm.ext e13
      replace Bn := Bn.ext e13
      replace Bh := Bh.ext e13
      have E13 : Ext w w13 := E12.trans e13
      clear f13 e13 E12
      go_wp2
      go_ret
      exact ⟨rfl, E13⟩
    · have p3 := order_key hxn nf kx
      have K1 := HC1; have K2 := HC2; have K3 := HCH
      rw [t1] at K1; rw [t2] at K2; rw [th] at K3
      clear t1 t2 th nf ng hxn kx
      obtain ⟨Bd_0, Bd_1, Bd_2⟩ := id Bd
      have Bd_l := World.block_lt_of_cell? _ _ Bd_0
      obtain ⟨Bm_0, Bm_1, Bm_2⟩ := id Bm
      have Bm_l := World.block_lt_of_cell? _ _ Bm_0
      go_wp2_with fail
      refine (K1.out _ _ _ nd nm).mono ?_
      rintro _ w10 ⟨rfl, f10⟩
      clear Bd_0 Bd_1 Bd_2 Bd_l Bm_0 Bm_1 Bm_2 Bm_l
      have e10 : Ext w9 w10 := (Ext.refl w9).trans f10
      replace T := T.ext e10
      replace nd := nd.ext e10
      replace nm := nm.ext e10
      replace nn := nn.ext e10
      replace nh := nh.ext e10
      replace Bd := Bd.ext e10
      replace Bm := Bm.ext e10
      replace Bn := Bn.ext e10
      replace Bh := Bh.ext e10
      have E10 : Ext w w10 := E9.trans e10
      clear f10 e10 E9
      obtain ⟨Bd_0, Bd_1, Bd_2⟩ := id Bd
      have Bd_l := World.block_lt_of_cell? _ _ Bd_0
      obtain ⟨Bn_0, Bn_1, Bn_2⟩ := id Bn
      have Bn_l := World.block_lt_of_cell? _ _ Bn_0
      go_wp2_with fail
      refine (K2.out _ _ _ nd nn).mono ?_
      rintro _ w11 ⟨rfl, f11⟩
      clear Bd_0 Bd_1 Bd_2 Bd_l Bn_0 Bn_1 Bn_2 Bn_l
      have e11 : Ext w10 w11 := (Ext.refl w10).trans f11
      replace T := T.ext e11
      replace nd := nd.ext e11
      replace nm := nm.ext e11
      replace nn := nn.ext e11
      replace nh := nh.ext e11
      replace Bd := Bd.ext e11
      replace Bm := Bm.ext e11
      replace Bn := Bn.ext e11
      replace Bh := Bh.ext e11
      have E11 : Ext w w11 := E10.trans e11
      clear f11 e11 E10
      obtain ⟨Bd_0, Bd_1, Bd_2⟩ := id Bd
      have Bd_l := World.block_lt_of_cell? _ _ Bd_0
      obtain ⟨Bm_0, Bm_1, Bm_2⟩ := id Bm
      have Bm_l := World.block_lt_of_cell? _ _ Bm_0
      go_wp2_with fail
      refine (K1.out _ _ _ nd nm).mono ?_
      rintro _ w12 ⟨rfl, f12⟩
      clear Bd_0 Bd_1 Bd_2 Bd_l Bm_0 Bm_1 Bm_2 Bm_l
      have e12 : Ext w11 w12 := (Ext.refl w11).trans f12
      replace T := T.ext e12
      replace nd := nd.ext e12
      replace nm := nm.ext e12
      replace nn := nn.ext e12
      replace nh := nh.ext e12
      replace Bd := Bd.ext e12
      replace Bm := Bm.ext e12
      replace Bn := Bn.ext e12
      replace Bh := Bh.ext e12
      have E12 : Ext w w12 := E11.trans e12
      clear f12 e12 E11
      obtain ⟨Bd_0, Bd_1, Bd_2⟩ := id Bd
      have Bd_l := World.block_lt_of_cell? _ _ Bd_0
      obtain ⟨Bh_0, Bh_1, Bh_2⟩ := id Bh
      have Bh_l := World.block_lt_of_cell? _ _ Bh_0
      go_wp2_with fail
      refine (K3.out _ _ _ nd nh).mono ?_
      rintro _ w13 ⟨rfl, f13⟩
      clear Bd_0 Bd_1 Bd_2 Bd_l Bh_0 Bh_1 Bh_2 Bh_l
      have e13 : Ext w12 w13 := (Ext.refl w12).trans f13
      replace T := T.ext e13
      replace nd := nd.ext e13
      replace nm := nm.ext e13
      replace nn := nn.ext e13
      replace nh := nh.ext e13
      replace Bd := Bd.ext e13
      replace Bm := Bm.ext e13
      replace Bn := Bn.ext e13
      replace Bh := Bh.ext e13
      have E13 : Ext w w13 := E12.trans e13
      clear f13 e13 E12
      obtain ⟨Bd_0, Bd_1, Bd_2⟩ := id Bd
      have Bd_l := World.block_lt_of_cell? _ _ Bd_0
      obtain ⟨Bh_0, Bh_1, Bh_2⟩ := id Bh
      have Bh_l := World.block_lt_of_cell? _ _ Bh_0
      go_wp2_with fail
      refine (K3.out _ _ _ nd nh).mono ?_
      rintro _ w14 ⟨rfl, f14⟩
      clear Bd_0 Bd_1 Bd_2 Bd_l Bh_0 Bh_1 Bh_2 Bh_l
      have e14 : Ext w13 w14 := (Ext.refl w13).trans f14
      replace T := T.ext e14
      replace nd := nd.ext e14
      replace nm := nm.ext e14
      replace nn := nn.ext e14
      replace nh := nh.ext e14
      replace Bd := Bd.ext e14
      replace Bm := Bm.ext e14
      replace Bn := Bn.ext e14
      replace Bh := Bh.ext e14
      have E14 : Ext w w14 := E13.trans e14
      clear f14 e14 E13
      go_wp2
      go_ret
      exact ⟨rfl, E14⟩
    · have p3 := order_key hxn nf kx
      have K1 := HC1; have K2 := HC2; have K3 := HCH
      rw [t1] at K1; rw [t2] at K2; rw [th] at K3
      clear t1 t2 th nf ng hxn kx
      obtain ⟨Bd_0, Bd_1, Bd_2⟩ := id Bd
      have Bd_l := World.block_lt_of_cell? _ _ Bd_0
      obtain ⟨Bm_0, Bm_1, Bm_2⟩ := id Bm
      have Bm_l := World.block_lt_of_cell? _ _ Bm_0
      go_wp2_with fail
      refine (K1.out _ _ _ nd nm).mono ?_
      rintro _ w10 ⟨rfl, f10⟩
      clear Bd_0 Bd_1 Bd_2 Bd_l Bm_0 Bm_1 Bm_2 Bm_l
      have e10 : Ext w9 w10 := (Ext.refl w9).trans f10
      replace T := T.ext e10
      replace nd := nd.ext e10
      replace nm := nm.ext e10
      replace nn := nn.ext e10
      replace nh := nh.ext e10
      replace Bd := Bd.ext e10
      replace Bm := Bm.ext e10
      replace Bn := Bn.ext e10
      replace Bh := Bh.ext e10
      have E10 : Ext w w10 := E9.trans e10
      clear f10 e10 E9
      obtain ⟨Bd_0, Bd_1, Bd_2⟩ := id Bd
      have Bd_l := World.block_lt_of_cell? _ _ Bd_0
      obtain ⟨Bn_0, Bn_1, Bn_2⟩ := id Bn
      have Bn_l := World.block_lt_of_cell? _ _ Bn_0
      go_wp2_with fail
      refine (K2.out _ _ _ nd nn).mono ?_
      rintro _ w11 ⟨rfl, f11⟩
      clear Bd_0 Bd_1 Bd_2 Bd_l Bn_0 Bn_1 Bn_2 Bn_l
      have e11 : Ext w10 w11 := (Ext.refl w10).trans f11
      replace T := T.ext e11
      replace nd := nd.ext e11
      replace nm := nm.ext e11
      replace nn := nn.ext e11
      replace nh := nh.ext e11
      replace Bd := Bd.ext e11
      replace Bm := Bm.ext e11
      replace Bn := Bn.ext e11
      replace Bh := Bh.ext e11
      have E11 : Ext w w11 := E10.trans e11
      clear f11 e11 E10
      obtain ⟨Bd_0, Bd_1, Bd_2⟩ := id Bd
      have Bd_l := World.block_lt_of_cell? _ _ Bd_0
      obtain ⟨Bm_0, Bm_1, Bm_2⟩ := id Bm
      have Bm_l := World.block_lt_of_cell? _ _ Bm_0
      go_wp2_with fail
      refine (K1.out _ _ _ nd nm).mono ?_
      rintro _ w12 ⟨rfl, f12⟩
      clear Bd_0 Bd_1 Bd_2 Bd_l Bm_0 Bm_1 Bm_2 Bm_l
      have e12 : Ext w11 w12 := (Ext.refl w11).trans f12
      replace T := T.ext e12
      replace nd := nd.ext e12
      replace nm := nm.ext e12
      replace nn := nn.ext e12
      replace nh := nh.ext e12
      replace Bd := Bd.ext e12
      replace Bm := Bm.ext e12
      replace Bn := Bn.ext e12
      replace Bh := Bh.ext e12
      have E12 : Ext w w12 := E11.trans e12
      clear f12 e12 E11
      obtain ⟨Bd_0, Bd_1, Bd_2⟩ := id Bd
      have Bd_l := World.block_lt_of_cell? _ _ Bd_0
      obtain ⟨Bh_0, Bh_1, Bh_2⟩ := id Bh
      have Bh_l := World.block_lt_of_cell? _ _ Bh_0
      go_wp2_with fail
      refine (K3.out _ _ _ nd nh).mono ?_
      rintro _ w13 ⟨rfl, f13⟩
      clear Bd_0 Bd_1 Bd_2 Bd_l Bh_0 Bh_1 Bh_2 Bh_l
      have e13 : Ext w12 w13 := (Ext.refl w12).trans f13
      replace T := T.ext e13
      replace nd := nd.ext e13
      replace nm := nm.ext e13
      replace nn := nn.ext e13
      replace nh := nh.ext e13
      replace Bd := Bd.ext e13
      replace Bm := Bm.ext e13
      replace Bn := Bn.ext e13
      replace Bh := Bh.ext e13
      have E13 : Ext w w13 := E12.trans e13
      clear f13 e13 E12
      obtain ⟨Bd_0, Bd_1, Bd_2⟩ := id Bd
      have Bd_l := World.block_lt_of_cell? _ _ Bd_0
      obtain ⟨Bh_0, Bh_1, Bh_2⟩ := id Bh
      have Bh_l := World.block_lt_of_cell? _ _ Bh_0
      go_wp2_with fail
      refine (K3.out _ _ _ nd nh).mono ?_
      rintro _ w14 ⟨rfl, f14⟩
      clear Bd_0 Bd_1 Bd_2 Bd_l Bh_0 Bh_1 Bh_2 Bh_l
      have e14 : Ext w13 w14 := (Ext.refl w13).trans f14
      replace T := T.ext e14
      replace nd := nd.ext e14
      replace nm := nm.ext e14
      replace nn := nn.ext e14
      replace nh := nh.ext e14
      replace Bd := Bd.ext e14
      replace Bm := Bm.ext e14
      replace Bn := Bn.ext e14
      replace Bh := Bh.ext e14
      have E14 : Ext w w14 := E13.trans e14
      clear f14 e14 E13
      go_wp2
      go_ret
      exact ⟨rfl, E14⟩
    · have p3 := ord_neq hxn nf (by omega)
      have p4 := order_key hxn ng (by rw [kx, HM.out.2.2.2.2.1])
      have K1 := HC1; have K2 := HC2; have K3 := HCH
      rw [t1] at K1; rw [t2] at K2; rw [th] at K3
      clear t1 t2 th nf ng hxn kx
      obtain ⟨Bd_0, Bd_1, Bd_2⟩ := id Bd
      have Bd_l := World.block_lt_of_cell? _ _ Bd_0
      obtain ⟨Bm_0, Bm_1, Bm_2⟩ := id Bm
      have Bm_l := World.block_lt_of_cell? _ _ Bm_0
      go_wp2_with fail
      refine (K1.out _ _ _ nd nm).mono ?_
      rintro _ w10 ⟨rfl, f10⟩
      clear Bd_0 Bd_1 Bd_2 Bd_l Bm_0 Bm_1 Bm_2 Bm_l
      have e10 : Ext w9 w10 := (Ext.refl w9).trans f10
      replace T := T.ext e10
      replace nd := nd.ext e10
      replace nm := nm.ext e10
      replace nn := nn.ext e10
      replace nh := nh.ext e10
      replace Bd := Bd.ext e10
      replace Bm := Bm.ext e10
      replace Bn := Bn.ext e10
      replace Bh := Bh.ext e10
      have E10 : Ext w w10 := E9.trans e10
      clear f10 e10 E9
      obtain ⟨Bd_0, Bd_1, Bd_2⟩ := id Bd
      have Bd_l := World.block_lt_of_cell? _ _ Bd_0
      obtain ⟨Bn_0, Bn_1, Bn_2⟩ := id Bn
      have Bn_l := World.block_lt_of_cell? _ _ Bn_0
      go_wp2_with fail
      refine (K2.out _ _ _ nd nn).mono ?_
      rintro _ w11 ⟨rfl, f11⟩
      clear Bd_0 Bd_1 Bd_2 Bd_l Bn_0 Bn_1 Bn_2 Bn_l
      have e11 : Ext w10 w11 := (Ext.refl w10).trans f11
      replace T := T.ext e11
      replace nd := nd.ext e11
      replace nm := nm.ext e11
      replace nn := nn.ext e11
      replace nh := nh.ext e11
      replace Bd := Bd.ext e11
      replace Bm := Bm.ext e11
      replace Bn := Bn.ext e11
      replace Bh := Bh.ext e11
      have E11 : Ext w w11 := E10.trans e11
      clear f11 e11 E10
      obtain ⟨Bd_0, Bd_1, Bd_2⟩ := id Bd
      have Bd_l := World.block_lt_of_cell? _ _ Bd_0
      obtain ⟨Bm_0, Bm_1, Bm_2⟩ := id Bm
      have Bm_l := World.block_lt_of_cell? _ _ Bm_0
      go_wp2_with fail
      refine (K1.out _ _ _ nd nm).mono ?_
      rintro _ w12 ⟨rfl, f12⟩
      clear Bd_0 Bd_1 Bd_2 Bd_l Bm_0 Bm_1 Bm_2 Bm_l
      have e12 : Ext w11 w12 := (Ext.refl w11).trans f12
      replace T := T.ext e12
      replace nd := nd.ext e12
      replace nm := nm.ext e12
      replace nn := nn.ext e12
      replace nh := nh.ext e12
      replace Bd := Bd.ext e12
      replace Bm := Bm.ext e12
      replace Bn := Bn.ext e12
      replace Bh := Bh.ext e12
      have E12 : Ext w w12 := E11.trans e12
      clear f12 e12 E11
      obtain ⟨Bd_0, Bd_1, Bd_2⟩ := id Bd
      have Bd_l := World.block_lt_of_cell? _ _ Bd_0
      obtain ⟨Bh_0, Bh_1, Bh_2⟩ := id Bh
      have Bh_l := World.block_lt_of_cell? _ _ Bh_0
      go_wp2_with fail
      refine (K3.out _ _ _ nd nh).mono ?_
      rintro _ w13 ⟨rfl, f13⟩
      clear Bd_0 Bd_1 Bd_2 Bd_l Bh_0 Bh_1 Bh_2 Bh_l
      have e13 : Ext w12 w13 := (Ext.refl w12).trans f13
      replace T := T.ext e13
      replace nd := nd.ext e13
      replace nm := nm.ext e13
      replace nn := nn.ext e13
      replace nh := nh.ext e13
      replace Bd := Bd.ext e13
      replace Bm := Bm.ext e13
      replace Bn := Bn.ext e13
      replace Bh := Bh.ext e13
      have E13 : Ext w w13 := E12.trans e13
      clear f13 e13 E12
      obtain ⟨Bd_0, Bd_1, Bd_2⟩ := id Bd
      have Bd_l := World.block_lt_of_cell? _ _ Bd_0
      obtain ⟨Bh_0, Bh_1, Bh_2⟩ := id Bh
      have Bh_l := World.block_lt_of_cell? _ _ Bh_0
      go_wp2_with fail
      refine (K3.out _ _ _ nd nh).mono ?_
      rintro _ w14 ⟨rfl, f14⟩
      clear Bd_0 Bd_1 Bd_2 Bd_l Bh_0 Bh_1 Bh_2 Bh_l
      have e14 : Ext w13 w14 := (Ext.refl w13).trans f14
      replace T := T.ext e14
      replace nd := nd.ext e14
      replace nm := nm.ext e14
      replace nn := nn.ext e14
      replace nh := nh.ext e14
      replace Bd := Bd.ext e14
      replace Bm := Bm.ext e14
      replace Bn := Bn.ext e14
      replace Bh := Bh.ext e14
      have E14 : Ext w w14 := E13.trans e14
      clear f14 e14 E13
      go_wp2
      go_ret
      exact ⟨rfl, E14⟩
    · have p3 := ord_neq hxn nf (by omega)
      have p4 := order_key hxn ng (by rw [kx, HM.out.2.2.2.2.1])
      have K1 := HC1; have K2 := HC2; have K3 := HCH
      rw [t1] at K1; rw [t2] at K2; rw [th] at K3
      clear t1 t2 th nf ng hxn kx
      obtain ⟨Bd_0, Bd_1, Bd_2⟩ := id Bd
      have Bd_l := World.block_lt_of_cell? _ _ Bd_0
      obtain ⟨Bm_0, Bm_1, Bm_2⟩ := id Bm
      have Bm_l := World.block_lt_of_cell? _ _ Bm_0
      go_wp2_with fail
      refine (K1.out _ _ _ nd nm).mono ?_
      rintro _ w10 ⟨rfl, f10⟩
      clear Bd_0 Bd_1 Bd_2 Bd_l Bm_0 Bm_1 Bm_2 Bm_l
      have e10 : Ext w9 w10 := (Ext.refl w9).trans f10
      replace T := T.ext e10
      replace nd := nd.ext e10
      replace nm := nm.ext e10
      replace nn := nn.ext e10
      replace nh := nh.ext e10
      replace Bd := Bd.ext e10
      replace Bm := Bm.ext e10
      replace Bn := Bn.ext e10
      replace Bh := Bh.ext e10
      have E10 : Ext w w10 := E9.trans e10
      clear f10 e10 E9
      obtain ⟨Bd_0, Bd_1, Bd_2⟩ := id Bd
      have Bd_l := World.block_lt_of_cell? _ _ Bd_0
      obtain ⟨Bn_0, Bn_1, Bn_2⟩ := id Bn
      have Bn_l := World.block_lt_of_cell? _ _ Bn_0
      go_wp2_with fail
      refine (K2.out _ _ _ nd nn).mono ?_
      rintro _ w11 ⟨rfl, f11⟩
      clear Bd_0 Bd_1 Bd_2 Bd_l Bn_0 Bn_1 Bn_2 Bn_l
      have e11 : Ext w10 w11 := (Ext.refl w10).trans f11
      replace T := T.ext e11
      replace nd := nd.ext e11
      replace nm := nm.ext e11
      replace nn := nn.ext e11
      replace nh := nh.ext e11
      replace Bd := Bd.ext e11
      replace Bm := Bm.ext e11
      replace Bn := Bn.ext e11
      replace Bh := Bh.ext e11
      have E11 : Ext w w11 := E10.trans e11
      clear f11 e11 E10
      obtain ⟨Bd_0, Bd_1, Bd_2⟩ := id Bd
      have Bd_l := World.block_lt_of_cell? _ _ Bd_0
      obtain ⟨Bm_0, Bm_1, Bm_2⟩ := id Bm
      have Bm_l := World.block_lt_of_cell? _ _ Bm_0
      go_wp2_with fail
      refine (K1.out _ _ _ nd nm).mono ?_
      rintro _ w12 ⟨rfl, f12⟩
      clear Bd_0 Bd_1 Bd_2 Bd_l Bm_0 Bm_1 Bm_2 Bm_l
      have e12 : Ext w11 w12 := (Ext.refl w11).trans f12
      replace T := T.ext e12
      replace nd := nd.ext e12
      replace nm := nm.ext e12
      replace nn := nn.ext e12
      replace nh := nh.ext e12
      replace Bd := Bd.ext e12
      replace Bm := Bm.ext e12
      replace Bn := Bn.ext e12
      replace Bh := Bh.ext e12
      have E12 : Ext w w12 := E11.trans e12
      clear f12 e12 E11
      obtain ⟨Bd_0, Bd_1, Bd_2⟩ := id Bd
      have Bd_l := World.block_lt_of_cell? _ _ Bd_0
      obtain ⟨Bh_0, Bh_1, Bh_2⟩ := id Bh
      have Bh_l := World.block_lt_of_cell? _ _ Bh_0
      go_wp2_with fail
      refine (K3.out _ _ _ nd nh).mono ?_
      rintro _ w13 ⟨rfl, f13⟩
      clear Bd_0 Bd_1 Bd_2 Bd_l Bh_0 Bh_1 Bh_2 Bh_l
      have e13 : Ext w12 w13 := (Ext.refl w12).trans f13
      replace T := T.ext e13
      replace nd := nd.ext e13
      replace nm := nm.ext e13
      replace nn := nn.ext e13
      replace nh := nh.ext e13
      replace Bd := Bd.ext e13
      replace Bm := Bm.ext e13
      replace Bn := Bn.ext e13
      replace Bh := Bh.ext e13
      have E13 : Ext w w13 := E12.trans e13
      clear f13 e13 E12
      obtain ⟨Bd_0, Bd_1, Bd_2⟩ := id Bd
      have Bd_l := World.block_lt_of_cell? _ _ Bd_0
      obtain ⟨Bh_0, Bh_1, Bh_2⟩ := id Bh
      have Bh_l := World.block_lt_of_cell? _ _ Bh_0
      go_wp2_with fail
      refine (K3.out _ _ _ nd nh).mono ?_
      rintro _ w14 ⟨rfl, f14⟩
      clear Bd_0 Bd_1 Bd_2 Bd_l Bh_0 Bh_1 Bh_2 Bh_l
      have e14 : Ext w13 w14 := (Ext.refl w13).trans f14
      replace T := T.ext e14
      replace nd := nd.ext e14
      replace nm := nm.ext e14
      replace nn := nn.ext e14
      replace nh := nh.ext e14
      replace Bd := Bd.ext e14
      replace Bm := Bm.ext e14
      replace Bn := Bn.ext e14
      replace Bh := Bh.ext e14
      have E14 : Ext w w14 := E13.trans e14
      clear f14 e14 E13
      obtain ⟨Bd_0, Bd_1, Bd_2⟩ := id Bd
      have Bd_l := World.block_lt_of_cell? _ _ Bd_0
      obtain ⟨Bn_0, Bn_1, Bn_2⟩ := id Bn
      have Bn_l := World.block_lt_of_cell? _ _ Bn_0
      go_wp2_with fail
      refine (K2.out _ _ _ nd nn).mono ?_
      rintro _ w15 ⟨rfl, f15⟩
      clear Bd_0 Bd_1 Bd_2 Bd_l Bn_0 Bn_1 Bn_2 Bn_l
      have e15 : Ext w14 w15 := (Ext.refl w14).trans f15
      replace T := T.ext e15
      replace nd := nd.ext e15
      replace nm := nm.ext e15
      replace nn := nn.ext e15
      replace nh := nh.ext e15
      replace Bd := Bd.ext e15
      replace Bm := Bm.ext e15
      replace Bn := Bn.ext e15
      replace Bh := Bh.ext e15
      have E15 : Ext w w15 := E14.trans e15
      clear f15 e15 E14
      go_wp2
      go_ret
      exact ⟨rfl, E15⟩
    · have p3 := ord_neq hxn nf (by omega)
      have p4 := order_key hxn ng (by rw [kx, HM.out.2.2.2.2.1])
      have K1 := HC1; have K2 := HC2; have K3 := HCH
      rw [t1] at K1; rw [t2] at K2; rw [th] at K3
      clear t1 t2 th nf ng hxn kx
      obtain ⟨Bd_0, Bd_1, Bd_2⟩ := id Bd
      have Bd_l := World.block_lt_of_cell? _ _ Bd_0
      obtain ⟨Bm_0, Bm_1, Bm_2⟩ := id Bm
      have Bm_l := World.block_lt_of_cell? _ _ Bm_0
      go_wp2_with fail
      refine (K1.out _ _ _ nd nm).mono ?_
      rintro _ w10 ⟨rfl, f10⟩
      clear Bd_0 Bd_1 Bd_2 Bd_l Bm_0 Bm_1 Bm_2 Bm_l
      have e10 : Ext w9 w10 := (Ext.refl w9).trans f10
      replace T := T.ext e10
      replace nd := nd.ext e10
      replace nm := nm.ext e10
      replace nn := nn.ext e10
      replace nh := nh.ext e10
      replace Bd := Bd.ext e10
      replace Bm := Bm.ext e10
      replace Bn := Bn.ext e10
      replace Bh := Bh.ext e10
      have E10 : Ext w w10 := E9.trans e10
      clear f10 e10 E9
      obtain ⟨Bd_0, Bd_1, Bd_2⟩ := id Bd
      have Bd_l := World.block_lt_of_cell? _ _ Bd_0
      obtain ⟨Bn_0, Bn_1, Bn_2⟩ := id Bn
      have Bn_l := World.block_lt_of_cell? _ _ Bn_0
      go_wp2_with fail
      refine (K2.out _ _ _ nd nn).mono ?_
      rintro _ w11 ⟨rfl, f11⟩
      clear Bd_0 Bd_1 Bd_2 Bd_l Bn_0 Bn_1 Bn_2 Bn_l
      have e11 : Ext w10 w11 := (Ext.refl w10).trans f11
      replace T := T.ext e11
      replace nd := nd.ext e11
      replace nm := nm.ext e11
      replace nn := nn.ext e11
      replace nh := nh.ext e11
      replace Bd := Bd.ext e11
      replace Bm := Bm.ext e11
      replace Bn := Bn.ext e11
      replace Bh := Bh.ext e11
      have E11 : Ext w w11 := E10.trans e11
      clear f11 e11 E10
      obtain ⟨Bd_0, Bd_1, Bd_2⟩ := id Bd
      have Bd_l := World.block_lt_of_cell? _ _ Bd_0
      obtain ⟨Bm_0, Bm_1, Bm_2⟩ := id Bm
      have Bm_l := World.block_lt_of_cell? _ _ Bm_0
      go_wp2_with fail
      refine (K1.out _ _ _ nd nm).mono ?_
      rintro _ w12 ⟨rfl, f12⟩
      clear Bd_0 Bd_1 Bd_2 Bd_l Bm_0 Bm_1 Bm_2 Bm_l
      have e12 : Ext w11 w12 := (Ext.refl w11).trans f12
      replace T := T.ext e12
      replace nd := nd.ext e12
      replace nm := nm.ext e12
      replace nn := nn.ext e12
      replace nh := nh.ext e12
      replace Bd := Bd.ext e12
      replace Bm := Bm.ext e12
      replace Bn := Bn.ext e12
      replace Bh := Bh.ext e12
      have E12 : Ext w w12 := E11.trans e12
      clear f12 e12 E11
      obtain ⟨Bd_0, Bd_1, Bd_2⟩ := id Bd
      have Bd_l := World.block_lt_of_cell? _ _ Bd_0
      obtain ⟨Bh_0, Bh_1, Bh_2⟩ := id Bh
      have Bh_l := World.block_lt_of_cell? _ _ Bh_0
      go_wp2_with fail
      refine (K3.out _ _ _ nd nh).mono ?_
      rintro _ w13 ⟨rfl, f13⟩
      clear Bd_0 Bd_1 Bd_2 Bd_l Bh_0 Bh_1 Bh_2 Bh_l
      have e13 : Ext w12 w13 := (Ext.refl w12).trans f13
      replace T := T.ext e13
      replace nd := nd.ext e13
      replace nm := nm.ext e13
      replace nn := nn.ext e13
      replace nh := nh.ext e13
      replace Bd := Bd.ext e13
      replace Bm := Bm.ext e13
      replace Bn := Bn.ext e13
      replace Bh := Bh.ext e13
      have E13 : Ext w w13 := E12.trans e13
      clear f13 e13 E12
      obtain ⟨Bd_0, Bd_1, Bd_2⟩ := id Bd
      have Bd_l := World.block_lt_of_cell? _ _ Bd_0
      obtain ⟨Bh_0, Bh_1, Bh_2⟩ := id Bh
      have Bh_l := World.block_lt_of_cell? _ _ Bh_0
      go_wp2_with fail
      refine (K3.out _ _ _ nd nh).mono ?_
      rintro _ w14 ⟨rfl, f14⟩
      clear Bd_0 Bd_1 Bd_2 Bd_l Bh_0 Bh_1 Bh_2 Bh_l
      have e14 : Ext w13 w14 := (Ext.refl w13).trans f14
      replace T := T.ext e14
      replace nd := nd.ext e14
      replace nm := nm.ext e14
      replace nn := nn.ext e14
      replace nh := nh.ext e14
      replace Bd := Bd.ext e14
      replace Bm := Bm.ext e14
      replace Bn := Bn.ext e14
      replace Bh := Bh.ext e14
      have E14 : Ext w w14 := E13.trans e14
      clear f14 e14 E13
      obtain ⟨Bd_0, Bd_1, Bd_2⟩ := id Bd
      have Bd_l := World.block_lt_of_cell? _ _ Bd_0
      obtain ⟨Bn_0, Bn_1, Bn_2⟩ := id Bn
      have Bn_l := World.block_lt_of_cell? _ _ Bn_0
      go_wp2_with fail
      refine (K2.out _ _ _ nd nn).mono ?_
      rintro _ w15 ⟨rfl, f15⟩
      clear Bd_0 Bd_1 Bd_2 Bd_l Bn_0 Bn_1 Bn_2 Bn_l
      have e15 : Ext w14 w15 := (Ext.refl w14).trans f15
      replace T := T.ext e15
      replace nd := nd.ext e15
      replace nm := nm.ext e15
      replace nn := nn.ext e15
      replace nh := nh.ext e15
      replace Bd := Bd.ext e15
      replace Bm := Bm.ext e15
      replace Bn := Bn.ext e15
      replace Bh := Bh.ext e15
      have E15 : Ext w w15 := E14.trans e15
      clear f15 e15 E14
      go_wp2
      go_ret
      exact ⟨rfl, E15⟩
    · have K1 := HC1; have K2 := HC2; have K3 := HCH
      rw [t1] at K1; rw [t2] at K2; rw [th] at K3
      clear t1 t2 th nf ng hxn
      obtain ⟨Bd_0, Bd_1, Bd_2⟩ := id Bd
      have Bd_l := World.block_lt_of_cell? _ _ Bd_0
      obtain ⟨Bm_0, Bm_1, Bm_2⟩ := id Bm
      have Bm_l := World.block_lt_of_cell? _ _ Bm_0
      go_wp2_with fail
      refine (K1.out _ _ _ nd nm).mono ?_
      rintro _ w10 ⟨rfl, f10⟩
      clear Bd_0 Bd_1 Bd_2 Bd_l Bm_0 Bm_1 Bm_2 Bm_l
      have e10 : Ext w9 w10 := (Ext.refl w9).trans f10
      replace T := T.ext e10
      replace nd := nd.ext e10
      replace nm := nm.ext e10
      replace nn := nn.ext e10
      replace nh := nh.ext e10
      replace Bd := Bd.ext e10
      replace Bm := Bm.ext e10
      replace Bn := Bn.ext e10
      replace Bh := Bh.ext e10
      have E10 : Ext w w10 := E9.trans e10
      clear f10 e10 E9
      obtain ⟨Bd_0, Bd_1, Bd_2⟩ := id Bd
      have Bd_l := World.block_lt_of_cell? _ _ Bd_0
      obtain ⟨Bn_0, Bn_1, Bn_2⟩ := id Bn
      have Bn_l := World.block_lt_of_cell? _ _ Bn_0
      go_wp2_with fail
      refine (K2.out _ _ _ nd nn).mono ?_
      rintro _ w11 ⟨rfl, f11⟩
      clear Bd_0 Bd_1 Bd_2 Bd_l Bn_0 Bn_1 Bn_2 Bn_l
      have e11 : Ext w10 w11 := (Ext.refl w10).trans f11
      replace T := T.ext e11
      replace nd := nd.ext e11
      replace nm := nm.ext e11
      replace nn := nn.ext e11
      replace nh := nh.ext e11
      replace Bd := Bd.ext e11
      replace Bm := Bm.ext e11
      replace Bn := Bn.ext e11
      replace Bh := Bh.ext e11
      have E11 : Ext w w11 := E10.trans e11
      clear f11 e11 E10
      obtain ⟨Bd_0, Bd_1, Bd_2⟩ := id Bd
      have Bd_l := World.block_lt_of_cell? _ _ Bd_0
      obtain ⟨Bm_0, Bm_1, Bm_2⟩ := id Bm
      have Bm_l := World.block_lt_of_cell? _ _ Bm_0
      go_wp2_with fail
      refine (K1.out _ _ _ nd nm).mono ?_
      rintro _ w12 ⟨rfl, f12⟩
      clear Bd_0 Bd_1 Bd_2 Bd_l Bm_0 Bm_1 Bm_2 Bm_l
      have e12 : Ext w11 w12 := (Ext.refl w11).trans f12
      replace T := T.ext e12
      replace nd := nd.ext e12
      replace nm := nm.ext e12
      replace nn := nn.ext e12
      replace nh := nh.ext e12
      replace Bd := Bd.ext e12
      replace Bm := Bm.ext e12
      replace Bn := Bn.ext e12
      replace Bh := Bh.ext e12
      have E12 : Ext w w12 := E11.trans e12
      clear f12 e12 E11
      obtain ⟨Bd_0, Bd_1, Bd_2⟩ := id Bd
      have Bd_l := World.block_lt_of_cell? _ _ Bd_0
      obtain ⟨Bh_0, Bh_1, Bh_2⟩ := id Bh
      have Bh_l := World.block_lt_of_cell? _ _ Bh_0
      go_wp2_with fail
      refine (K3.out _ _ _ nd nh).mono ?_
      rintro _ w13 ⟨rfl, f13⟩
      clear Bd_0 Bd_1 Bd_2 Bd_l Bh_0 Bh_1 Bh_2 Bh_l
      have e13 : Ext w12 w13 := (Ext.refl w12).trans f13
      replace T := T.ext e13
      replace nd := nd.ext e13
      replace nm := nm.ext e13
      replace nn := nn.ext e13
      replace nh := nh.ext e13
      replace Bd := Bd.ext e13
      replace Bm := Bm.ext e13
      replace Bn := Bn.ext e13
      replace Bh := Bh.ext e13
      have E13 : Ext w w13 := E12.trans e13
      clear f13 e13 E12
      obtain ⟨Bd_0, Bd_1, Bd_2⟩ := id Bd
      have Bd_l := World.block_lt_of_cell? _ _ Bd_0
      obtain ⟨Bh_0, Bh_1, Bh_2⟩ := id Bh
      have Bh_l := World.block_lt_of_cell? _ _ Bh_0
      go_wp2_with fail
      refine (K3.out _ _ _ nd nh).mono ?_
      rintro _ w14 ⟨rfl, f14⟩
      clear Bd_0 Bd_1 Bd_2 Bd_l Bh_0 Bh_1 Bh_2 Bh_l
      have e14 : Ext w13 w14 := (Ext.refl w13).trans f14
      replace T := T.ext e14
      replace nd := nd.ext e14
      replace nm := nm.ext e14
      replace nn := nn.ext e14
      replace nh := nh.ext e14
      replace Bd := Bd.ext e14
      replace Bm := Bm.ext e14
      replace Bn := Bn.ext e14
      replace Bh := Bh.ext e14
      have E14 : Ext w w14 := E13.trans e14
      clear f14 e14 E13
      obtain ⟨Bd_0, Bd_1, Bd_2⟩ := id Bd
      have Bd_l := World.block_lt_of_cell? _ _ Bd_0
      obtain ⟨Bn_0, Bn_1, Bn_2⟩ := id Bn
      have Bn_l := World.block_lt_of_cell? _ _ Bn_0
      go_wp2_with fail
      refine (K2.out _ _ _ nd nn).mono ?_
      rintro _ w15 ⟨rfl, f15⟩
      clear Bd_0 Bd_1 Bd_2 Bd_l Bn_0 Bn_1 Bn_2 Bn_l
      have e15 : Ext w14 w15 := (Ext.refl w14).trans f15
      replace T := T.ext e15
      replace nd := nd.ext e15
      replace nm := nm.ext e15
      replace nn := nn.ext e15
      replace nh := nh.ext e15
      replace Bd := Bd.ext e15
      replace Bm := Bm.ext e15
      replace Bn := Bn.ext e15
      replace Bh := Bh.ext e15
      have E15 : Ext w w15 := E14.trans e15
      clear f15 e15 E14
      go_wp2
      go_ret
      exact ⟨rfl, E15⟩
  · have p1 := ord_nne hqn nf (by omega)
    have p2 := ord_nn hqn ng (by rw [hqk, HM.out.2.2.2.2.1])
    clear hqk hqn
    obtain ⟨Bd_0, Bd_1, Bd_2⟩ := id Bd
    have Bd_l := World.block_lt_of_cell? _ _ Bd_0
    go_wp2_with fail
    refine (HGd.out _ E7).mono ?_
    rintro _ w8 ⟨rfl, f8⟩
    clear Bd_0 Bd_1 Bd_2 Bd_l
    have e8 : Ext w7 w8 := (Ext.refl w7).trans f8
    replace T := T.ext e8
    replace nd := nd.ext e8
    replace nm := nm.ext e8
    replace nn := nn.ext e8
    replace nh := nh.ext e8
    replace Bd := Bd.ext e8
    replace Bm := Bm.ext e8
    replace Bn := Bn.ext e8
    replace Bh := Bh.ext e8
    have E8 : Ext w w8 := E7.trans e8
    clear f8 e8 E7
    obtain ⟨Bd_0, Bd_1, Bd_2⟩ := id Bd
    have Bd_l := World.block_lt_of_cell? _ _ Bd_0
    go_wp2_with fail
    refine (HND.out _ _ nd T).mono ?_
    rintro _ w9 ⟨x, rfl, hx, f9⟩
    clear Bd_0 Bd_1 Bd_2 Bd_l
    have e9 : Ext w8 w9 := (Ext.refl w8).trans f9
    replace T := T.ext e9
    replace nd := nd.ext e9
    replace nm := nm.ext e9
    replace nn := nn.ext e9
    replace nh := nh.ext e9
    replace Bd := Bd.ext e9
    replace Bm := Bm.ext e9
    replace Bn := Bn.ext e9
    replace Bh := Bh.ext e9
    have E9 : Ext w w9 := E8.trans e9
    clear f9 e9 E8
    have hxn := hx.num
    have hxc := nx_cases hx HM.out.1 HM.out.2.1 HM.out.2.2.1 HM.out.2.2.2.1 HM.out.2.2.2.2.2
    clear hx
    rcases hxc with ⟨t1, th, t2⟩ | ⟨t1, th, t2, kx⟩ | ⟨t1, th, t2, kx⟩ | ⟨t1, th, t2, kx⟩ | ⟨t1, th, t2, kx⟩ | ⟨t1, th, t2, kx⟩ | ⟨t1, th, t2, kx⟩ | ⟨t1, th, t2⟩
    · have K1 := HC1; have K2 := HC2; have K3 := HCH
      rw [t1] at K1; rw [t2] at K2; rw [th] at K3
      clear t1 t2 th nf ng hxn
      obtain ⟨Bd_0, Bd_1, Bd_2⟩ := id Bd
      have Bd_l := World.block_lt_of_cell? _ _ Bd_0
      obtain ⟨Bm_0, Bm_1, Bm_2⟩ := id Bm
      have Bm_l := World.block_lt_of_cell? _ _ Bm_0
      go_wp2_with fail
      refine (K1.out _ _ _ nd nm).mono ?_
      rintro _ w10 ⟨rfl, f10⟩
      clear Bd_0 Bd_1 Bd_2 Bd_l Bm_0 Bm_1 Bm_2 Bm_l
      have e10 : Ext w9 w10 := (Ext.refl w9).trans f10
      replace T := T.ext e10
      replace nd := nd.ext e10
      replace nm := nm.ext e10
      replace nn := nn.ext e10
      replace nh := nh.ext e10
      replace Bd := Bd.ext e10
      replace Bm := Bm.ext e10
      replace Bn := Bn.ext e10
      replace Bh := Bh.ext e10
      have E10 : Ext w w10 := E9.trans e10
      clear f10 e10 E9
      obtain ⟨Bd_0, Bd_1, Bd_2⟩ := id Bd
      have Bd_l := World.block_lt_of_cell? _ _ Bd_0
      obtain ⟨Bm_0, Bm_1, Bm_2⟩ := id Bm
      have Bm_l := World.block_lt_of_cell? _ _ Bm_0
      go_wp2_with fail
      refine (K1.out _ _ _ nd nm).mono ?_
      rintro _ w11 ⟨rfl, f11⟩
      clear Bd_0 Bd_1 Bd_2 Bd_l Bm_0 Bm_1 Bm_2 Bm_l
      have e11 : Ext w10 w11 := (Ext.refl w10).trans f11
      replace T := T.ext e11
      replace nd := nd.ext e11
      replace nm := nm.ext e11
      replace nn := nn.ext e11
      replace nh := nh.ext e11
      replace Bd := Bd.ext e11
      replace Bm := Bm.ext e11
      replace Bn := Bn.ext e11
      replace Bh := Bh.ext e11
      have E11 : Ext w w11 := E10.trans e11
      clear f11 e11 E10
      obtain ⟨Bd_0, Bd_1, Bd_2⟩ := id Bd
      have Bd_l := World.block_lt_of_cell? _ _ Bd_0
      obtain ⟨Bh_0, Bh_1, Bh_2⟩ := id Bh
      have Bh_l := World.block_lt_of_cell? _ _ Bh_0
      go_wp2_with fail
      refine (K3.out _ _ _ nd nh).mono ?_
      rintro _ w12 ⟨rfl, f12⟩
      clear Bd_0 Bd_1 Bd_2 Bd_l Bh_0 Bh_1 Bh_2 Bh_l
      have e12 : Ext w11 w12 := (Ext.refl w11).trans f12
      replace T := T.ext e12
      replace nd := nd.ext e12
      replace nm := nm.ext e12
      replace nn := nn.ext e12
      replace nh := nh.ext e12
      replace Bd := Bd.ext e12
      replace Bm := Bm.ext e12
      replace Bn := Bn.ext e12
      replace Bh := Bh.ext e12
      have E12 : Ext w w12 := E11.trans e12
      clear f12 e12 E11
      go_wp2
      go_ret
      exact ⟨rfl, E12⟩
    · have p3 := order_key hxn nf kx
      have K1 := HC1; have K2 := HC2; have K3 := HCH
      rw [t1] at K1; rw [t2] at K2; rw [th] at K3
      clear t1 t2 th nf ng hxn kx
      obtain ⟨Bd_0, Bd_1, Bd_2⟩ := id Bd
      have Bd_l := World.block_lt_of_cell? _ _ Bd_0
      obtain ⟨Bm_0, Bm_1, Bm_2⟩ := id Bm
      have Bm_l := World.block_lt_of_cell? _ _ Bm_0
      go_wp2_with fail
      refine (K1.out _ _ _ nd nm).mono ?_
      rintro _ w10 ⟨rfl, f10⟩
      clear Bd_0 Bd_1 Bd_2 Bd_l Bm_0 Bm_1 Bm_2 Bm_l
      have e10 : Ext w9 w10 := (Ext.refl w9).trans f10
      replace T := T.ext e10
      replace nd := nd.ext e10
      replace nm := nm.ext e10
      replace nn := nn.ext e10
      replace nh := nh.ext e10
      replace Bd := Bd.ext e10
      replace Bm := Bm.ext e10
      replace Bn := Bn.ext e10
      replace Bh := Bh.ext e10
      have E10 : Ext w w10 := E9.trans e10
      clear f10 e10 E9
      obtain ⟨Bd_0, Bd_1, Bd_2⟩ := id Bd
      have Bd_l := World.block_lt_of_cell? _ _ Bd_0
      obtain ⟨Bn_0, Bn_1, Bn_2⟩ := id Bn
      have Bn_l := World.block_lt_of_cell? _ _ Bn_0
      go_wp2_with fail
      refine (K2.out _ _ _ nd nn).mono ?_
      rintro _ w11 ⟨rfl, f11⟩
      clear Bd_0 Bd_1 Bd_2 Bd_l Bn_0 Bn_1 Bn_2 Bn_l
      have e11 : Ext w10 w11 := (Ext.refl w10).trans f11
      replace T := T.ext e11
      replace nd := nd.ext e11
      replace nm := nm.ext e11
      replace nn := nn.ext e11
      replace nh := nh.ext e11
      replace Bd := Bd.ext e11
      replace Bm := Bm.ext e11
      replace Bn := Bn.ext e11
      replace Bh := Bh.ext e11
      have E11 : Ext w w11 := E10.trans e11
      clear f11 e11 E10
      obtain ⟨Bd_0, Bd_1, Bd_2⟩ := id Bd
      have Bd_l := World.block_lt_of_cell? _ _ Bd_0
      obtain ⟨Bm_0, Bm_1, Bm_2⟩ := id Bm
      have Bm_l := World.block_lt_of_cell? _ _ Bm_0
      go_wp2_with fail
      refine (K1.out _ _ _ nd nm).mono ?_
      rintro _ w12 ⟨rfl, f12⟩
      clear Bd_0 Bd_1 Bd_2 Bd_l Bm_0 Bm_1 Bm_2 Bm_l
      have e12 : Ext w11 w12 := (Ext.refl w11).trans f12
      replace T := T.ext e12
      replace nd := nd.ext e12
      replace nm := nm.ext e12
      replace nn := nn.ext e12
      replace nh := nh.ext e12
      replace Bd := Bd.ext e12
      replace Bm := Bm.ext e12
      replace Bn := Bn.ext e12
      replace Bh := Bh.ext e12
      have E12 : Ext w w12 := E11.trans e12
      clear f12 e12 E11
      obtain ⟨Bd_0, Bd_1, Bd_2⟩ := id Bd
      have Bd_l := World.block_lt_of_cell? _ _ Bd_0
      obtain ⟨Bh_0, Bh_1, Bh_2⟩ := id Bh
      have Bh_l := World.block_lt_of_cell? _ _ Bh_0
      go_wp2_with fail
      refine (K3.out _ _ _ nd nh).mono ?_
      rintro _ w13 ⟨rfl, f13⟩
      clear Bd_0 Bd_1 Bd_2 Bd_l Bh_0 Bh_1 Bh_2 Bh_l
      have e13 : Ext w12 w13 := (Ext.refl w12).trans f13
      replace T := T.ext e13
      replace nd := nd.ext e13
      replace nm := nm.ext e13
      replace nn := nn.ext e13
      replace nh := nh.ext e13
      replace Bd := Bd.ext e13
      replace Bm := Bm.ext e13
      replace Bn := Bn.ext e13
      replace Bh := Bh.ext e13
      have E13 : Ext w w13 := E12.trans e13
      clear f13 e13 E12
      go_wp2
      go_ret
      exact ⟨rfl, E13⟩
    · have p3 := order_key hxn nf kx
      have K1 := HC1; have K2 := HC2; have K3 := HCH
      rw [t1] at K1; rw [t2] at K2; rw [th] at K3
      clear t1 t2 th nf ng hxn kx
      obtain ⟨Bd_0, Bd_1, Bd_2⟩ := id Bd
      have Bd_l := World.block_lt_of_cell? _ _ Bd_0
      obtain ⟨Bm_0, Bm_1, Bm_2⟩ := id Bm
      have Bm_l := World.block_lt_of_cell? _ _ Bm_0
      go_wp2_with fail
      refine (K1.out _ _ _ nd nm).mono ?_
      rintro _ w10 ⟨rfl, f10⟩
      clear Bd_0 Bd_1 Bd_2 Bd_l Bm_0 Bm_1 Bm_2 Bm_l
      have e10 : Ext w9 w10 := (Ext.refl w9).trans f10
      replace T := T.ext e10
      replace nd := nd.ext e10
      replace nm := nm.ext e10
      replace nn := nn.ext e10
      replace nh := nh.ext e10
      replace Bd := Bd.ext e10
      replace Bm := Bm.ext e10
      replace Bn := Bn.ext e10
      replace Bh := Bh.ext e10
      have E10 : Ext w w10 := E9.trans e10
      clear f10 e10 E9
      obtain ⟨Bd_0, Bd_1, Bd_2⟩ := id Bd
      have Bd_l := World.block_lt_of_cell? _ _ Bd_0
      obtain ⟨Bn_0, Bn_1, Bn_2⟩ := id Bn
      have Bn_l := World.block_lt_of_cell? _ _ Bn_0
      go_wp2_with fail
      refine (K2.out _ _ _ nd nn).mono ?_
      rintro _ w11 ⟨rfl, f11⟩
      clear Bd_0 Bd_1 Bd_2 Bd_l Bn_0 Bn_1 Bn_2 Bn_l
      have e11 : Ext w10 w11 := (Ext.refl w10).trans f11
      replace T := T.ext e11
      replace nd := nd.ext e11
      replace nm := nm.ext e11
      replace nn := nn.ext e11
      replace nh := nh.ext e11
      replace Bd := Bd.ext e11
      replace Bm := Bm.ext e11
      replace Bn := Bn.ext e11
      replace Bh := Bh.ext e11
      have E11 : Ext w w11 := E10.trans e11
      clear f11 e11 E10
      obtain ⟨Bd_0, Bd_1, Bd_2⟩ := id Bd
      have Bd_l := World.block_lt_of_cell? _ _ Bd_0
      obtain ⟨Bm_0, Bm_1, Bm_2⟩ := id Bm
      have Bm_l := World.block_lt_of_cell? _ _ Bm_0
      go_wp2_with fail
      refine (K1.out _ _ _ nd nm).mono ?_
      rintro _ w12 ⟨rfl, f12⟩
      clear Bd_0 Bd_1 Bd_2 Bd_l Bm_0 Bm_1 Bm_2 Bm_l
      have e12 : Ext w11 w12 := (Ext.refl w11).trans f12
      replace T := T.ext e12
      replace nd := nd.ext e12
      replace nm := nm.ext e12
      replace nn := nn.ext e12
      replace nh := nh.ext e12
      replace Bd := Bd.ext e12
      replace Bm := Bm.ext e12
      replace Bn := Bn.ext e12
      replace Bh := Bh.ext e12
      have E12 : Ext w w12 := E11.trans e12
      clear f12 e12 E11
      obtain ⟨Bd_0, Bd_1, Bd_2⟩ := id Bd
      have Bd_l := World.block_lt_of_cell? _ _ Bd_0
      obtain ⟨Bh_0, Bh_1, Bh_2⟩ := id Bh
      have Bh_l := World.block_lt_of_cell? _ _ Bh_0
      go_wp2_with fail
      refine (K3.out _ _ _ nd nh).mono ?_
      rintro _ w13 ⟨rfl, f13⟩
      clear Bd_0 Bd_1 Bd_2 Bd_l Bh_0 Bh_1 Bh_2 Bh_l
      have e13 : Ext w12 w13 := (Ext.refl w12).trans f13
      replace T := T.ext e13
      replace nd := nd.ext e13
      replace nm := nm.ext e13
      replace nn := nn.ext e13
      replace nh := nh.ext e13
      replace Bd := Bd.ext e13
      replace Bm := Bm.ext e13
      replace Bn := Bn.ext e13
      replace Bh := Bh.ext e13
      have E13 : Ext w w13 := E12.trans e13
      clear f13 e13 E12
      obtain ⟨Bd_0, Bd_1, Bd_2⟩ := id Bd
      have Bd_l := World.block_lt_of_cell? _ _ Bd_0
      obtain ⟨Bh_0, Bh_1, Bh_2⟩ := id Bh
      have Bh_l := World.block_lt_of_cell? _ _ Bh_0
      go_wp2_with fail
      refine (K3.out _ _ _ nd nh).mono ?_
      rintro _ w14 ⟨rfl, f14⟩
      clear Bd_0 Bd_1 Bd_2 Bd_l Bh_0 Bh_1 Bh_2 Bh_l
      have e14 : Ext w13 w14 := (Ext.refl w13).trans f14
      replace T := T.ext e14
      replace nd := nd.ext e14
      replace nm := nm.ext e14
      replace nn := nn.ext e14
      replace nh := nh.ext e14
      replace Bd := Bd.ext e14
      replace Bm := Bm.ext e14
      replace Bn := Bn.ext e14
      replace Bh := Bh.ext e14
      have E14 : Ext w w14 := E13.trans e14
      clear f14 e14 E13
      go_wp2
      go_ret
      exact ⟨rfl, E14⟩
    · have p3 := order_key hxn nf kx
      have K1 := HC1; have K2 := HC2; have K3 := HCH
      rw [t1] at K1; rw [t2] at K2; rw [th] at K3
      clear t1 t2 th nf ng hxn kx
      obtain ⟨Bd_0, Bd_1, Bd_2⟩ := id Bd
      have Bd_l := World.block_lt_of_cell? _ _ Bd_0
      obtain ⟨Bm_0, Bm_1, Bm_2⟩ := id Bm
      have Bm_l := World.block_lt_of_cell? _ _ Bm_0
      go_wp2_with fail
      refine (K1.out _ _ _ nd nm).mono ?_
      rintro _ w10 ⟨rfl, f10⟩
      clear Bd_0 Bd_1 Bd_2 Bd_l Bm_0 Bm_1 Bm_2 Bm_l
      have e10 : Ext w9 w10 := (Ext.refl w9).trans f10
      replace T := T.ext e10
      replace nd := nd.ext e10
      replace nm := nm.ext e10
      replace nn := nn.ext e10
      replace nh := nh.ext e10
      replace Bd := Bd.ext e10
      replace Bm := Bm.ext e10
      replace Bn := Bn.ext e10
      replace Bh := Bh.ext e10
      have E10 : Ext w w10 := E9.trans e10
      clear f10 e10 E9
      obtain ⟨Bd_0, Bd_1, Bd_2⟩ := id Bd
      have Bd_l := World.block_lt_of_cell? _ _ Bd_0
      obtain ⟨Bn_0, Bn_1, Bn_2⟩ := id Bn
      have Bn_l := World.block_lt_of_cell? _ _ Bn_0
      go_wp2_with fail
      refine (K2.out _ _ _ nd nn).mono ?_
      rintro _ w11 ⟨rfl, f11⟩
      clear Bd_0 Bd_1 Bd_2 Bd_l Bn_0 Bn_1 Bn_2 Bn_l
      have e11 : Ext w10 w11 := (Ext.refl w10).trans f11
      replace T := T.ext e11
      replace nd := nd.ext e11
      replace nm := nm.ext e11
      replace nn := nn.ext e11
      replace nh := nh.ext e11
      replace Bd := Bd.ext e11
      replace Bm := Bm.ext e11
      replace Bn := Bn.ext e11
      replace Bh := Bh.ext e11
      have E11 : Ext w w11 := E10.trans e11
      clear f11 e11 E10
      obtain ⟨Bd_0, Bd_1, Bd_2⟩ := id Bd
      have Bd_l := World.block_lt_of_cell? _ _ Bd_0
      obtain ⟨Bm_0, Bm_1, Bm_2⟩ := id Bm
      have Bm_l := World.block_lt_of_cell? _ _ Bm_0
      go_wp2_with fail
      refine (K1.out _ _ _ nd nm).mono ?_
      rintro _ w12 ⟨rfl, f12⟩
      clear Bd_0 Bd_1 Bd_2 Bd_l Bm_0 Bm_1 Bm_2 Bm_l
      have e12 : Ext w11 w12 := (Ext.refl w11).trans f12
      replace T := T.ext e12
      replace nd := nd.ext e12
      replace nm := nm.ext e12
      replace nn := nn.ext e12
      replace nh := nh.ext e12
      replace Bd := Bd.ext e12
      replace Bm := Bm.ext e12
      replace Bn := Bn.ext e12
      replace Bh := Bh.ext e12
      have E12 : Ext w w12 := E11.trans e12
      clear f12 e12 E11
      obtain ⟨Bd_0, Bd_1, Bd_2⟩ := id Bd
      have Bd_l := World.block_lt_of_cell? _ _ Bd_0
      obtain ⟨Bh_0, Bh_1, Bh_2⟩ := id Bh
      have Bh_l := World.block_lt_of_cell? _ _ Bh_0
      go_wp2_with fail
      refine (K3.out _ _ _ nd nh).mono ?_
      rintro _ w13 ⟨rfl, f13⟩
      clear Bd_0 Bd_1 Bd_2 Bd_l Bh_0 Bh_1 Bh_2 Bh_l
      have e13 : Ext w12 w13 := (Ext.refl w12).trans f13
      replace T := T.ext e13
      replace nd := nd.ext e13
      replace nm := nm.ext e13
      replace nn := nn.ext e13
      replace nh := nh.ext e13
      replace Bd := Bd.ext e13
      replace Bm := Bm.ext e13
      replace Bn := Bn.ext e13
      replace Bh := Bh.ext e13
      have E13 : Ext w w13 := E12.trans e13
      clear f13 e13 E12
      obtain ⟨Bd_0, Bd_1, Bd_2⟩ := id Bd
      have Bd_l := World.block_lt_of_cell? _ _ Bd_0
      obtain ⟨Bh_0, Bh_1, Bh_2⟩ := id Bh
      have Bh_l := World.block_lt_of_cell? _ _ Bh_0
      go_wp2_with fail
      refine (K3.out _ _ _ nd nh).mono ?_
      rintro _ w14 ⟨rfl, f14⟩
      clear Bd_0 Bd_1 Bd_2 Bd_l Bh_0 Bh_1 Bh_2 Bh_l
      have e14 : Ext w13 w14 := (Ext.refl w13).trans f14
      replace T := T.ext e14
      replace nd := nd.ext e14
      replace nm := nm.ext e14
      replace nn := nn.ext e14
      replace nh := nh.ext e14
      replace Bd := Bd.ext e14
      replace Bm := Bm.ext e14
      replace Bn := Bn.ext e14
      replace Bh := Bh.ext e14
      have E14 : Ext w w14 := E13.trans e14
      clear f14 e14 E13
      go_wp2
      go_ret
      exact ⟨rfl, E14⟩
    · have p3 := ord_neq hxn nf (by omega)
      have p4 := order_key hxn ng (by rw [kx, HM.out.2.2.2.2.1])
      have K1 := HC1; have K2 := HC2; have K3 := HCH
      rw [t1] at K1; rw [t2] at K2; rw [th] at K3
      clear t1 t2 th nf ng hxn kx
      obtain ⟨Bd_0, Bd_1, Bd_2⟩ := id Bd
      have Bd_l := World.block_lt_of_cell? _ _ Bd_0
      obtain ⟨Bm_0, Bm_1, Bm_2⟩ := id Bm
      have Bm_l := World.block_lt_of_cell? _ _ Bm_0
      go_wp2_with fail
      refine (K1.out _ _ _ nd nm).mono ?_
      rintro _ w10 ⟨rfl, f10⟩
      clear Bd_0 Bd_1 Bd_2 Bd_l Bm_0 Bm_1 Bm_2 Bm_l
      have e10 : Ext w9 w10 := (Ext.refl w9).trans f10
      replace T := T.ext e10
      replace nd := nd.ext e10
      replace nm := nm.ext e10
      replace nn := nn.ext e10
      replace nh := nh.ext e10
      replace Bd := Bd.ext e10
      replace Bm := Bm.ext e10
      replace Bn := Bn.ext e10
      replace Bh := Bh.ext e10
      have E10 : Ext w w10 := E9.trans e10
      clear f10 e10 E9
      obtain ⟨Bd_0, Bd_1, Bd_2⟩ := id Bd
      have Bd_l := World.block_lt_of_cell? _ _ Bd_0
      obtain ⟨Bn_0, Bn_1, Bn_2⟩ := id Bn
      have Bn_l := World.block_lt_of_cell? _ _ Bn_0
      go_wp2_with fail
      refine (K2.out _ _ _ nd nn).mono ?_
      rintro _ w11 ⟨rfl, f11⟩
      clear Bd_0 Bd_1 Bd_2 Bd_l Bn_0 Bn_1 Bn_2 Bn_l
      have e11 : Ext w10 w11 := (Ext.refl w10).trans f11
      replace T := T.ext e11
      replace nd := nd.ext e11
      replace nm := nm.ext e11
      replace nn := nn.ext e11
      replace nh := nh.ext e11
      replace Bd := Bd.ext e11
      replace Bm := Bm.ext e11
      replace Bn := Bn.ext e11
      replace Bh := Bh.ext e11
      have E11 : Ext w w11 := E10.trans e11
      clear f11 e11 E10
      obtain ⟨Bd_0, Bd_1, Bd_2⟩ := id Bd
      have Bd_l := World.block_lt_of_cell? _ _ Bd_0
      obtain ⟨Bm_0, Bm_1, Bm_2⟩ := id Bm
      have Bm_l := World.block_lt_of_cell? _ _ Bm_0
      go_wp2_with fail
      refine (K1.out _ _ _ nd nm).mono ?_
      rintro _ w12 ⟨rfl, f12⟩
      clear Bd_0 Bd_1 Bd_2 Bd_l Bm_0 Bm_1 Bm_2 Bm_l
      have e12 : Ext w11 w12 := (Ext.refl w11).trans f12
      replace T := T.ext e12
      replace nd := nd.ext e12
      replace nm := nm.ext e12
      replace nn := nn.ext e12
      replace nh := nh.ext e12
      replace Bd := Bd.ext e12
      replace Bm := Bm.ext e12
      replace Bn := Bn.ext e12
      replace Bh := Bh.ext e12
      have E12 : Ext w w12 := E11.trans e12
      clear f12 e12 E11
      obtain ⟨Bd_0, Bd_1, Bd_2⟩ := id Bd
      have Bd_l := World.block_lt_of_cell? _ _ Bd_0
      obtain ⟨Bh_0, Bh_1, Bh_2⟩ := id Bh
      have Bh_l := World.block_lt_of_cell? _ _ Bh_0
      go_wp2_with fail
      refine (K3.out _ _ _ nd nh).mono ?_
      rintro _ w13 ⟨rfl, f13⟩
      clear Bd_0 Bd_1 Bd_2 Bd_l Bh_0 Bh_1 Bh_2 Bh_l
      have e13 : Ext w12 w13 := (Ext.refl w12).trans f13
      replace T := T.ext e13
      replace nd := nd.ext e13
      replace nm := nm.ext e13
      replace nn := nn.ext e13
      replace nh := nh.ext e13
      replace Bd := Bd.ext e13
      replace Bm := Bm.ext e13
      replace Bn := Bn.ext e13
      replace Bh := Bh.ext e13
      have E13 : Ext w w13 := E12.trans e13
      clear f13 e13 E12
      obtain ⟨Bd_0, Bd_1, Bd_2⟩ := id Bd
      have Bd_l := World.block_lt_of_cell? _ _ Bd_0
      obtain ⟨Bh_0, Bh_1, Bh_2⟩ := id Bh
      have Bh_l := World.block_lt_of_cell? _ _ Bh_0
      go_wp2_with fail
      refine (K3.out _ _ _ nd nh).mono ?_
      rintro _ w14 ⟨rfl, f14⟩
      clear Bd_0 Bd_1 Bd_2 Bd_l Bh_0 Bh_1 Bh_2 Bh_l
      have e14 : Ext w13 w14 := (Ext.refl w13).trans f14
      replace T := T.ext e14
      replace nd := nd.ext e14
      replace nm := nm.ext e14
      replace nn := nn.ext e14
      replace nh := nh.ext e14
      replace Bd := Bd.ext e14
      replace Bm := Bm.ext e14
      replace Bn := Bn.ext e14
      replace Bh := Bh.ext e14
      have E14 : Ext w w14 := E13.trans e14
      clear f14 e14 E13
      go_wp2
      go_ret
      exact ⟨rfl, E14⟩
    · have p3 := ord_neq hxn nf (by omega)
      have p4 := order_key hxn ng (by rw [kx, HM.out.2.2.2.2.1])
      have K1 := HC1; have K2 := HC2; have K3 := HCH
      rw [t1] at K1; rw [t2] at K2; rw [th] at K3
      clear t1 t2 th nf ng hxn kx
      obtain ⟨Bd_0, Bd_1, Bd_2⟩ := id Bd
      have Bd_l := World.block_lt_of_cell? _ _ Bd_0
      obtain ⟨Bm_0, Bm_1, Bm_2⟩ := id Bm
      have Bm_l := World.block_lt_of_cell? _ _ Bm_0
      go_wp2_with fail
      refine (K1.out _ _ _ nd nm).mono ?_
      rintro _ w10 ⟨rfl, f10⟩
      clear Bd_0 Bd_1 Bd_2 Bd_l Bm_0 Bm_1 Bm_2 Bm_l
      have e10 : Ext w9 w10 := (Ext.refl w9).trans f10
      replace T := T.ext e10
      replace nd := nd.ext e10
      replace nm := nm.ext e10
      replace nn := nn.ext e10
      replace nh := nh.ext e10
      replace Bd := Bd.ext e10
      replace Bm := Bm.ext e10
      replace Bn := Bn.ext e10
      replace Bh := Bh.ext e10
      have E10 : Ext w w10 := E9.trans e10
      clear f10 e10 E9
      obtain ⟨Bd_0, Bd_1, Bd_2⟩ := id Bd
      have Bd_l := World.block_lt_of_cell? _ _ Bd_0
      obtain ⟨Bn_0, Bn_1, Bn_2⟩ := id Bn
      have Bn_l := World.block_lt_of_cell? _ _ Bn_0
      go_wp2_with fail
      refine (K2.out _ _ _ nd nn).mono ?_
      rintro _ w11 ⟨rfl, f11⟩
      clear Bd_0 Bd_1 Bd_2 Bd_l Bn_0 Bn_1 Bn_2 Bn_l
      have e11 : Ext w10 w11 := (Ext.refl w10).trans f11
      replace T := T.ext e11
      replace nd := nd.ext e11
      replace nm := nm.ext e11
      replace nn := nn.ext e11
      replace nh := nh.ext e11
      replace Bd := Bd.ext e11
      replace Bm := Bm.ext e11
      replace Bn := Bn.ext e11
      replace Bh := Bh.ext e11
      have E11 : Ext w w11 := E10.trans e11
      clear f11 e11 E10
      obtain ⟨Bd_0, Bd_1, Bd_2⟩ := id Bd
      have Bd_l := World.block_lt_of_cell? _ _ Bd_0
      obtain ⟨Bm_0, Bm_1, Bm_2⟩ := id Bm
      have Bm_l := World.block_lt_of_cell? _ _ Bm_0
      go_wp2_with fail
      refine (K1.out _ _ _ nd nm).mono ?_
      rintro _ w12 ⟨rfl, f12⟩
      clear Bd_0 Bd_1 Bd_2 Bd_l Bm_0 Bm_1 Bm_2 Bm_l
      have e12 : Ext w11 w12 := (Ext.refl w11).trans f12
      replace T := T.ext e12
      replace nd := nd.ext e12
      replace nm := nm.ext e12
      replace nn := nn.ext e12
      replace nh := nh.ext e12
      replace Bd := Bd.ext e12
      replace Bm := Bm.ext e12
      replace Bn := Bn.ext e12
      replace Bh := Bh.ext e12
      have E12 : Ext w w12 := E11.trans e12
      clear f12 e12 E11
      obtain ⟨Bd_0, Bd_1, Bd_2⟩ := id Bd
      have Bd_l := World.block_lt_of_cell? _ _ Bd_0
      obtain ⟨Bh_0, Bh_1, Bh_2⟩ := id Bh
      have Bh_l := World.block_lt_of_cell? _ _ Bh_0
      go_wp2_with fail
      refine (K3.out _ _ _ nd nh).mono ?_
      rintro _ w13 ⟨rfl, f13⟩
      clear Bd_0 Bd_1 Bd_2 Bd_l Bh_0 Bh_1 Bh_2 Bh_l
      have e13 : Ext w12 w13 := (Ext.refl w12).trans f13
      replace T := T.ext e13
      replace nd := nd.ext e13
      replace nm := nm.ext e13
      replace nn := nn.ext e13
      replace nh := nh.ext e13
      replace Bd := Bd.ext e13
      replace Bm := Bm.ext e13
      replace Bn := Bn.ext e13
      replace Bh := Bh.ext e13
      have E13 : Ext w w13 := E12.trans e13
      clear f13 e13 E12
      obtain ⟨Bd_0, Bd_1, Bd_2⟩ := id Bd
      have Bd_l := World.block_lt_of_cell? _ _ Bd_0
      obtain ⟨Bh_0, Bh_1, Bh_2⟩ := id Bh
      have Bh_l := World.block_lt_of_cell? _ _ Bh_0
      go_wp2_with fail
      refine (K3.out _ _ _ nd nh).mono ?_
      rintro _ w14 ⟨rfl, f14⟩
      clear Bd_0 Bd_1 Bd_2 Bd_l Bh_0 Bh_1 Bh_2 Bh_l
      have e14 : Ext w13 w14 := (Ext.refl w13).trans f14
      replace T := T.ext e14
      replace nd := nd.ext e14
      replace nm := nm.ext e14
      replace nn := nn.ext e14
      replace nh := nh.ext e14
      replace Bd := Bd.ext e14
      replace Bm := Bm.ext e14
      replace Bn := Bn.ext e14
      replace Bh := Bh.ext e14
      have E14 : Ext w w14 := E13.trans e14
      clear f14 e14 E13
      obtain ⟨Bd_0, Bd_1, Bd_2⟩ := id Bd
      have Bd_l := World.block_lt_of_cell? _ _ Bd_0
      obtain ⟨Bn_0, Bn_1, Bn_2⟩ := id Bn
      have Bn_l := World.block_lt_of_cell? _ _ Bn_0
      go_wp2_with fail
      refine (K2.out _ _ _ nd nn).mono ?_
      rintro _ w15 ⟨rfl, f15⟩
      clear Bd_0 Bd_1 Bd_2 Bd_l Bn_0 Bn_1 Bn_2 Bn_l
      have e15 : Ext w14 w15 := (Ext.refl w14).trans f15
      replace T := T.ext e15
      replace nd := nd.ext e15
      replace nm := nm.ext e15
      replace nn := nn.ext e15
      replace nh := nh.ext e15
      replace Bd := Bd.ext e15
      replace Bm := Bm.ext e15
      replace Bn := Bn.ext e15
      replace Bh := Bh.ext e15
      have E15 : Ext w w15 := E14.trans e15
      clear f15 e15 E14
      go_wp2
      go_ret
      exact ⟨rfl, E15⟩
    · have p3 := ord_neq hxn nf (by omega)
      have p4 := order_key hxn ng (by rw [kx, HM.out.2.2.2.2.1])
      have K1 := HC1; have K2 := HC2; have K3 := HCH
      rw [t1] at K1; rw [t2] at K2; rw [th] at K3
      clear t1 t2 th nf ng hxn kx
      obtain ⟨Bd_0, Bd_1, Bd_2⟩ := id Bd
      have Bd_l := World.block_lt_of_cell? _ _ Bd_0
      obtain ⟨Bm_0, Bm_1, Bm_2⟩ := id Bm
      have Bm_l := World.block_lt_of_cell? _ _ Bm_0
      go_wp2_with fail
      refine (K1.out _ _ _ nd nm).mono ?_
      rintro _ w10 ⟨rfl, f10⟩
      clear Bd_0 Bd_1 Bd_2 Bd_l Bm_0 Bm_1 Bm_2 Bm_l
      have e10 : Ext w9 w10 := (Ext.refl w9).trans f10
      replace T := T.ext e10
      replace nd := nd.ext e10
      replace nm := nm.ext e10
      replace nn := nn.ext e10
      replace nh := nh.ext e10
      replace Bd := Bd.ext e10
      replace Bm := Bm.ext e10
      replace Bn := Bn.ext e10
      replace Bh := Bh.ext e10
      have E10 : Ext w w10 := E9.trans e10
      clear f10 e10 E9
      obtain ⟨Bd_0, Bd_1, Bd_2⟩ := id Bd
      have Bd_l := World.block_lt_of_cell? _ _ Bd_0
      obtain ⟨Bn_0, Bn_1, Bn_2⟩ := id Bn
      have Bn_l := World.block_lt_of_cell? _ _ Bn_0
      go_wp2_with fail
      refine (K2.out _ _ _ nd nn).mono ?_
      rintro _ w11 ⟨rfl, f11⟩
      clear Bd_0 Bd_1 Bd_2 Bd_l Bn_0 Bn_1 Bn_2 Bn_l
      have e11 : Ext w10 w11 := (Ext.refl w10).trans f11
      replace T := T.ext e11
      replace nd := nd.ext e11
      replace nm := nm.ext e11
      replace nn := nn.ext e11
      replace nh := nh.ext e11
      replace Bd := Bd.ext e11
      replace Bm := Bm.ext e11
      replace Bn := Bn.ext e11
      replace Bh := Bh.ext e11
      have E11 : Ext w w11 := E10.trans e11
      clear f11 e11 E10
      obtain ⟨Bd_0, Bd_1, Bd_2⟩ := id Bd
      have Bd_l := World.block_lt_of_cell? _ _ Bd_0
      obtain ⟨Bm_0, Bm_1, Bm_2⟩ := id Bm
      have Bm_l := World.block_lt_of_cell? _ _ Bm_0
      go_wp2_with fail
      refine (K1.out _ _ _ nd nm).mono ?_
      rintro _ w12 ⟨rfl, f12⟩
      clear Bd_0 Bd_1 Bd_2 Bd_l Bm_0 Bm_1 Bm_2 Bm_l
      have e12 : Ext w11 w12 := (Ext.refl w11).trans f12
      replace T := T.ext e12
      replace nd := nd.ext e12
      replace nm := nm.ext e12
      replace nn := nn.ext e12
      replace nh := nh.ext e12
      replace Bd := Bd.ext e12
      replace Bm := Bm.ext e12
      replace Bn := Bn.ext e12
      replace Bh := Bh.ext e12
      have E12 : Ext w w12 := E11.trans e12
      clear f12 e12 E11
      obtain ⟨Bd_0, Bd_1, Bd_2⟩ := id Bd
      have Bd_l := World.block_lt_of_cell? _ _ Bd_0
      obtain ⟨Bh_0, Bh_1, Bh_2⟩ := id Bh
      have Bh_l := World.block_lt_of_cell? _ _ Bh_0
      go_wp2_with fail
      refine (K3.out _ _ _ nd nh).mono ?_
      rintro _ w13 ⟨rfl, f13⟩
      clear Bd_0 Bd_1 Bd_2 Bd_l Bh_0 Bh_1 Bh_2 Bh_l
      have e13 : Ext w12 w13 := (Ext.refl w12).trans f13
      replace T := T.ext e13
      replace nd := nd.ext e13
      replace nm := nm.ext e13
      replace nn := nn.ext e13
      replace nh := nh.ext e13
      replace Bd := Bd.ext e13
      replace Bm := Bm.ext e13
      replace Bn := Bn.ext e13
      replace Bh := Bh.ext e13
      have E13 : Ext w w13 := E12.trans e13
      clear f13 e13 E12
      obtain ⟨Bd_0, Bd_1, Bd_2⟩ := id Bd
      have Bd_l := World.block_lt_of_cell? _ _ Bd_0
      obtain ⟨Bh_0, Bh_1, Bh_2⟩ := id Bh
      have Bh_l := World.block_lt_of_cell? _ _ Bh_0
      go_wp2_with fail
      refine (K3.out _ _ _ nd nh).mono ?_
      rintro _ w14 ⟨rfl, f14⟩
      clear Bd_0 Bd_1 Bd_2 Bd_l Bh_0 Bh_1 Bh_2 Bh_l
      have e14 : Ext w13 w14 := (Ext.refl w13).trans f14
      replace T := T.ext e14
      replace nd := nd.ext e14
      replace nm := nm.ext e14
      replace nn := nn.ext e14
      replace nh := nh.ext e14
      replace Bd := Bd.ext e14
      replace Bm := Bm.ext e14
      replace Bn := Bn.ext e14
      replace Bh := Bh.ext e14
      have E14 : Ext w w14 := E13.trans e14
      clear f14 e14 E13
      obtain ⟨Bd_0, Bd_1, Bd_2⟩ := id Bd
      have Bd_l := World.block_lt_of_cell? _ _ Bd_0
      obtain ⟨Bn_0, Bn_1, Bn_2⟩ := id Bn
      have Bn_l := World.block_lt_of_cell? _ _ Bn_0
      go_wp2_with fail
      refine (K2.out _ _ _ nd nn).mono ?_
      rintro _ w15 ⟨rfl, f15⟩
      clear Bd_0 Bd_1 Bd_2 Bd_l Bn_0 Bn_1 Bn_2 Bn_l
      have e15 : Ext w14 w15 := (Ext.refl w14).trans f15
      replace T := T.ext e15
      replace nd := nd.ext e15
      replace nm := nm.ext e15
      replace nn := nn.ext e15
      replace nh := nh.ext e15
      replace Bd := Bd.ext e15
      replace Bm := Bm.ext e15
      replace Bn := Bn.ext e15
      replace Bh := Bh.ext e15
      have E15 : Ext w w15 := E14.trans e15
      clear f15 e15 E14
      go_wp2
      go_ret
      exact ⟨rfl, E15⟩
    · have K1 := HC1; have K2 := HC2; have K3 := HCH
      rw [t1] at K1; rw [t2] at K2; rw [th] at K3
      clear t1 t2 th nf ng hxn
      obtain ⟨Bd_0, Bd_1, Bd_2⟩ := id Bd
      have Bd_l := World.block_lt_of_cell? _ _ Bd_0
      obtain ⟨Bm_0, Bm_1, Bm_2⟩ := id Bm
      have Bm_l := World.block_lt_of_cell? _ _ Bm_0
      go_wp2_with fail
      refine (K1.out _ _ _ nd nm).mono ?_
      rintro _ w10 ⟨rfl, f10⟩
      clear Bd_0 Bd_1 Bd_2 Bd_l Bm_0 Bm_1 Bm_2 Bm_l
      have e10 : Ext w9 w10 := (Ext.refl w9).trans f10
      replace T := T.ext e10
      replace nd := nd.ext e10
      replace nm := nm.ext e10
      replace nn := nn.ext e10
      replace nh := nh.ext e10
      replace Bd := Bd.ext e10
      replace Bm := Bm.ext e10
      replace Bn := Bn.ext e10
      replace Bh := Bh.ext e10
      have E10 : Ext w w10 := E9.trans e10
      clear f10 e10 E9
      obtain ⟨Bd_0, Bd_1, Bd_2⟩ := id Bd
      have Bd_l := World.block_lt_of_cell? _ _ Bd_0
      obtain ⟨Bn_0, Bn_1, Bn_2⟩ := id Bn
      have Bn_l := World.block_lt_of_cell? _ _ Bn_0
      go_wp2_with fail
      refine (K2.out _ _ _ nd nn).mono ?_
      rintro _ w11 ⟨rfl, f11⟩
      clear Bd_0 Bd_1 Bd_2 Bd_l Bn_0 Bn_1 Bn_2 Bn_l
      have e11 : Ext w10 w11 := (Ext.refl w10).trans f11
      replace T := T.ext e11
      replace nd := nd.ext e11
      replace nm := nm.ext e11
      replace nn := nn.ext e11
      replace nh := nh.ext e11
      replace Bd := Bd.ext e11
      replace Bm := Bm.ext e11
      replace Bn := Bn.ext e11
      replace Bh := Bh.ext e11
      have E11 : Ext w w11 := E10.trans e11
      clear f11 e11 E10
      obtain ⟨Bd_0, Bd_1, Bd_2⟩ := id Bd
      have Bd_l := World.block_lt_of_cell? _ _ Bd_0
      obtain ⟨Bm_0, Bm_1, Bm_2⟩ := id Bm
      have Bm_l := World.block_lt_of_cell? _ _ Bm_0
      go_wp2_with fail
      refine (K1.out _ _ _ nd nm).mono ?_
      rintro _ w12 ⟨rfl, f12⟩
      clear Bd_0 Bd_1 Bd_2 Bd_l Bm_0 Bm_1 Bm_2 Bm_l
      have e12 : Ext w11 w12 := (Ext.refl w11).trans f12
      replace T := T.ext e12
      replace nd := nd.ext e12
      replace nm := nm.ext e12
      replace nn := nn.ext e12
      replace nh := nh.ext e12
      replace Bd := Bd.ext e12
      replace Bm := Bm.ext e12
      replace Bn := Bn.ext e12
      replace Bh := Bh.ext e12
      have E12 : Ext w w12 := E11.trans e12
      clear f12 e12 E11
      obtain ⟨Bd_0, Bd_1, Bd_2⟩ := id Bd
      have Bd_l := World.block_lt_of_cell? _ _ Bd_0
      obtain ⟨Bh_0, Bh_1, Bh_2⟩ := id Bh
      have Bh_l := World.block_lt_of_cell? _ _ Bh_0
      go_wp2_with fail
      refine (K3.out _ _ _ nd nh).mono ?_
      rintro _ w13 ⟨rfl, f13⟩
      clear Bd_0 Bd_1 Bd_2 Bd_l Bh_0 Bh_1 Bh_2 Bh_l
      have e13 : Ext w12 w13 := (Ext.refl w12).trans f13
      replace T := T.ext e13
      replace nd := nd.ext e13
      replace nm := nm.ext e13
      replace nn := nn.ext e13
      replace nh := nh.ext e13
      replace Bd := Bd.ext e13
      replace Bm := Bm.ext e13
      replace Bn := Bn.ext e13
      replace Bh := Bh.ext e13
      have E13 : Ext w w13 := E12.trans e13
      clear f13 e13 E12
      obtain ⟨Bd_0, Bd_1, Bd_2⟩ := id Bd
      have Bd_l := World.block_lt_of_cell? _ _ Bd_0
      obtain ⟨Bh_0, Bh_1, Bh_2⟩ := id Bh
      have Bh_l := World.block_lt_of_cell? _ _ Bh_0
      go_wp2_with fail
      refine (K3.out _ _ _ nd nh).mono ?_
      rintro _ w14 ⟨rfl, f14⟩
      clear Bd_0 Bd_1 Bd_2 Bd_l Bh_0 Bh_1 Bh_2 Bh_l
      have e14 : Ext w13 w14 := (Ext.refl w13).trans f14
      replace T := T.ext e14
      replace nd := nd.ext e14
      replace nm := nm.ext e14
      replace nn := nn.ext e14
      replace nh := nh.ext e14
      replace Bd := Bd.ext e14
      replace Bm := Bm.ext e14
      replace Bn := Bn.ext e14
      replace Bh := Bh.ext e14
      have E14 : Ext w w14 := E13.trans e14
      clear f14 e14 E13
      obtain ⟨Bd_0, Bd_1, Bd_2⟩ := id Bd
      have Bd_l := World.block_lt_of_cell? _ _ Bd_0
      obtain ⟨Bn_0, Bn_1, Bn_2⟩ := id Bn
      have Bn_l := World.block_lt_of_cell? _ _ Bn_0
      go_wp2_with fail
      refine (K2.out _ _ _ nd nn).mono ?_
      rintro _ w15 ⟨rfl, f15⟩
      clear Bd_0 Bd_1 Bd_2 Bd_l Bn_0 Bn_1 Bn_2 Bn_l
      have e15 : Ext w14 w15 := (Ext.refl w14).trans f15
      replace T := T.ext e15
      replace nd := nd.ext e15
      replace nm := nm.ext e15
      replace nn := nn.ext e15
      replace nh := nh.ext e15
      replace Bd := Bd.ext e15
      replace Bm := Bm.ext e15
      replace Bn := Bn.ext e15
      replace Bh := Bh.ext e15
      have E15 : Ext w w15 := E14.trans e15
      clear f15 e15 E14
      go_wp2
      go_ret
      exact ⟨rfl, E15⟩

theorem walk_FloNext (w : World) (T : Tg w) (f : Nat) (hf : f < 18446744073709551616) (nbd : Bool) (Md : Value) (xd : List Int) (jd : Int) (rowd : Row w Md xd) (bdd : -9223372036854775808 ≤ jd ∧ jd ≤ 9223372036854775807) : Calls Tryd.prog 7 #[.float .f64 f, .agg #[.bool nbd, Md, .int .i64 jd]] w (RetE w (.bool true)) := by
  by_cases hN : 9218868437227405312 < frung f
  · exact nx_nan w T f hf nbd Md xd jd rowd bdd (by omega) (fun w' T' => next_not w' f hf (.inl hN) T') (ord_nan hN)
  · have hn : Num64 f := ⟨by omega⟩
    by_cases hI : frung f = 9218868437227405312 ∧ fneg f = false
    · have hk : fkey f = 9218868437227405312 := by unfold fkey; rw [hI.1, hI.2]; rfl
      exact nx_inf w T f hf nbd Md xd jd rowd bdd (by omega) (fun w' T' => next_not w' f hf (.inr hI) T') (ord_ne hn) (ord_gt hn zero_k.2 (by rw [zero_k.1, hk]; decide)) (order_key hn hn rfl)
    · have hk : -9218868437227405312 ≤ fkey f ∧ fkey f < 9218868437227405312 := by
        unfold fkey
        cases hs : fneg f
        · simp only [Bool.false_eq_true, if_false]
          have : frung f ≠ 9218868437227405312 := fun h => hI ⟨h, hs⟩
          omega
        · simp only [if_true]; omega
      obtain ⟨a1, a2, a3, a4, a5⟩ := atw_spec (k := fkey f + 1) (by omega) (by omega)
      have hX := fun w' (T' : Tg w') => next_num w' f hf hn hk.2 T'
      generalize atw (fkey f + 1) = g at *
      by_cases hF : frung f < 9218868437227405312
      · have hfF : Fin64 f := ⟨hF⟩
        by_cases hG : frung g < 9218868437227405312
        · have hgF : Fin64 g := ⟨hG⟩
          cases hgd : goodF nbd xd jd
          · exact nx_bad w T f hf nbd Md xd jd rowd bdd hfF g a4 hgF hX a1 hgd
          · exact nx_good w T f hf nbd Md xd jd rowd bdd hfF g a4 hgF hX a1 hgd
        · have hkf : fkey f = 9218868437227405311 := by have := fin_key hfF; omega
          exact nx_max w T f hf nbd Md xd jd rowd bdd hfF g a4 (by omega) hX (order_key hn max_key.2 (by rw [hkf, max_key.1])) (ord_gt a5 hn (by omega))
      · have hr : frung f = 9218868437227405312 := by have := hn.out; omega
        have hs : fneg f = true := by
          cases hs : fneg f
          · exact absurd ⟨hr, hs⟩ hI
          · rfl
        have hkf : fkey f = -9218868437227405312 := by unfold fkey; rw [hs, hr]; rfl
        have hgF : Fin64 g := ⟨by rw [a2, hkf]; decide⟩
        exact nx_ninf w T f hf nbd Md xd jd rowd bdd (by omega) g a4 hgF hX (ord_ne hn) (ord_not_gt hn zero_k.2 (by rw [zero_k.1, hkf]; decide)) (ord_lt hn zero_k.2 (by rw [zero_k.1, hkf]; decide)) (order_key a5 nmax_key.2 (by rw [a1, hkf, nmax_key.1]; decide))

end Go.Proofs.YtdfkhaajeojeeaaDoor
