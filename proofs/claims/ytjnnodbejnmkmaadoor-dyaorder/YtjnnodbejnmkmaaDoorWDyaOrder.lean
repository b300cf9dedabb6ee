/- The walk of DyaOrder. -/
import Derived.Test.YtjnnodbejnmkmaaDoorG3
namespace Go.Proofs.YtjnnodbejnmkmaaDoor
open Go.RowKit

set_option maxRecDepth 100000 in
set_option maxHeartbeats 8000000 in
theorem order_in (w : World) (T : Tb w) (nba : Bool) (Ma : Value) (xa : List Int) (ia : Int) (rowa : Row w Ma xa) (bda : -9223372036854775808 ≤ ia ∧ ia ≤ 9223372036854775807) (nbb : Bool) (Mb : Value) (xb : List Int) (ib : Int) (rowb : Row w Mb xb) (bdb : -9223372036854775808 ≤ ib ∧ ib ≤ 9223372036854775807) (nbc : Bool) (Mc : Value) (xc : List Int) (ic : Int) (rowc : Row w Mc xc) (bdc : -9223372036854775808 ≤ ic ∧ ic ≤ 9223372036854775807) (hg : goodAll 3 (pk nba nbb nbc) (pk xa xb xc) (pk ia ib ic) = true) :
    Calls Tryd.prog 5 #[.agg #[.bool nba, Ma, .int .i64 ia], .agg #[.bool nbb, Mb, .int .i64 ib], .agg #[.bool nbc, Mc, .int .i64 ic]] w (RetE w (.bool true)) := by
  go_enter Tryd.func5, Tryd.ntmps5
  go_wp2_with fail
  refine (headD_any _ (T.ext ((((Ext.refl w).alloc _).alloc _).alloc _))).mono ?_
  rintro _ w1 ⟨rfl, e1⟩
  have E0 : Ext w w1 := ((((Ext.refl w).alloc _).alloc _).alloc _).trans e1
  have Ba : Box w1 (w.heap.size) (.bool nba) Ma (.int .i64 ia) := Box.at ((((Ext.refl _).alloc _).alloc _).trans e1) (by simp)
  have Bb : Box w1 (w.heap.size + 1) (.bool nbb) Mb (.int .i64 ib) := Box.at (((Ext.refl _).alloc _).trans e1) (by simp)
  have Bc : Box w1 (w.heap.size + 1 + 1) (.bool nbc) Mc (.int .i64 ic) := Box.at ((Ext.refl _).trans e1) (by simp)
  replace T := T.ext E0
  replace rowa := rowa.ext E0
  replace rowb := rowb.ext E0
  replace rowc := rowc.ext E0
  clear e1
  obtain ⟨a0, a1, a2⟩ := id Ba
  obtain ⟨b0, b1, b2⟩ := id Bb
  obtain ⟨c0, c1, c2⟩ := id Bc
  have HG := Lib.hid (good_any _ _ 3 3 _ _ _ _ (by omega) (many3 w1 24 nba nbb nbc Ma Mb Mc xa xb xc ia ib ic rowa rowb rowc bda bdb bdc))
  rw [hg] at HG
  have hall := pk_all (goodAll_true hg)
  clear hg
  obtain ⟨za, na, ca, la, ja1, ja2, ra⟩ := good_num rowa (hall.1 (by omega))
  obtain ⟨zb, nb, cb, lb, jb1, jb2, rb⟩ := good_num rowb (hall.2.1 (by omega))
  obtain ⟨zc, nc, cc, lc, jc1, jc2, rc⟩ := good_num rowc (hall.2.2 (by omega))
  clear hall
  clear ca la bda cb lb bdb cc lc bdc
  go_wp2_with fail
  refine HG.out.mono ?_
  rintro _ w2 ⟨rfl, f2⟩
  have e2 : Ext w1 w2 := ((Ext.refl _).alloc _).trans f2
  generalize dy za ia = Xa at *
  generalize dy zb ib = Xb at *
  generalize dy zc ic = Xc at *
  clear HG f2 rowa a0 a1 a2 rowb b0 b1 b2 rowc c0 c1 c2
  replace T := T.ext e2
  replace na := na.ext e2
  replace nb := nb.ext e2
  replace nc := nc.ext e2
  replace Ba := Ba.ext e2
  replace Bb := Bb.ext e2
  replace Bc := Bc.ext e2
  replace E0 := E0.trans e2
  clear e2
  obtain ⟨a0, a1, a2⟩ := id Ba
  obtain ⟨b0, b1, b2⟩ := id Bb
  obtain ⟨c0, c1, c2⟩ := id Bc
  obtain ⟨x, hx⟩ : ∃ x, cmpD Xa Xb = x := ⟨_, rfl⟩
  have hx1 := cmpD_range Xa Xb
  rw [hx] at hx1
  obtain ⟨hx2, hx3⟩ := hx1
  have q0 : decide (Xa = Xb) = decide (x = 0) := by rw [← hx]; exact decide_eq_decide.2 (cmpD_eq Xa Xb ▸ Iff.rfl)
  have q1 : cmpD Xb Xa = -x := by rw [cmpD_swap, hx]
  have q2 : cmpD (Xa + Xc) (Xb + Xc) = x := by rw [cmpD_adds, hx]
  have q3 : cmpD (-Xa) (-Xb) = -x := by rw [cmpD_negs, hx]
  have q4 : cmpD (Xa + -Xb) 0 = x := by rw [cmpD_less, hx]
  obtain ⟨ga, hga⟩ : ∃ g, cmpD Xa 0 = g := ⟨_, rfl⟩
  obtain ⟨gb, hgb⟩ : ∃ g, cmpD Xb 0 = g := ⟨_, rfl⟩
  have q5 : cmpD (Xa * Xb) 0 = ga * gb := by rw [cmpD_mul, hga, hgb]
  have hs := small_mul (cmpD_range Xa 0) (cmpD_range Xb 0)
  rw [hga, hgb] at hs
  have hw : IntKind.i64.wrap (ga * gb) = ga * gb := IntWalk.i64_in _ (by omega)
  have HW := Lib.hid hw
  clear hs hw
  have HQ := Lib.hid (And.intro hx (And.intro q1 (And.intro q2 (And.intro q3 (And.intro q4 (And.intro hga (And.intro hgb (And.intro q5 q0))))))))
  clear hx q0 q1 q2 q3 q4 q5 hga hgb
  have rac := ra.add rc
  have rbc := rb.add rc
  have rab := ra.add rb.neg
  have rm := ra.mul rb
  go_wp2_with fail
  refine (cmp_lit _ _ _ Xa Xb 200 392 200 392 x HQ.out.1 na nb ra rb (by omega) (by omega)).mono ?_
  rintro _ w3 ⟨rfl, e3⟩
  clear a0 a1 a2 b0 b1 b2 c0 c1 c2
  replace T := T.ext e3
  replace na := na.ext e3
  replace nb := nb.ext e3
  replace nc := nc.ext e3
  replace Ba := Ba.ext e3
  replace Bb := Bb.ext e3
  replace Bc := Bc.ext e3
  replace E0 := E0.trans e3
  clear e3
  obtain ⟨a0, a1, a2⟩ := id Ba
  obtain ⟨b0, b1, b2⟩ := id Bb
  obtain ⟨c0, c1, c2⟩ := id Bc
  go_wp2_with fail
  refine (rsameD_any _ _ _ Xa Xb na nb).mono ?_
  rw [HQ.out.2.2.2.2.2.2.2.2]
  rintro _ w4 ⟨rfl, e4⟩
  clear a0 a1 a2 b0 b1 b2 c0 c1 c2
  replace T := T.ext e4
  replace na := na.ext e4
  replace nb := nb.ext e4
  replace nc := nc.ext e4
  replace Ba := Ba.ext e4
  replace Bb := Bb.ext e4
  replace Bc := Bc.ext e4
  replace E0 := E0.trans e4
  clear e4
  obtain ⟨a0, a1, a2⟩ := id Ba
  obtain ⟨b0, b1, b2⟩ := id Bb
  obtain ⟨c0, c1, c2⟩ := id Bc
  have hd0 : ((x == 0) != decide (x = 0)) = false := by by_cases h : x = 0 <;> simp [h]
  go_wp2_with fail
  refine (cmp_lit _ _ _ Xb Xa 200 392 200 392 (-x) HQ.out.2.1 nb na rb ra (by omega) (by omega)).mono ?_
  rintro _ w5 ⟨rfl, e5⟩
  clear a0 a1 a2 b0 b1 b2 c0 c1 c2
  replace T := T.ext e5
  replace na := na.ext e5
  replace nb := nb.ext e5
  replace nc := nc.ext e5
  replace Ba := Ba.ext e5
  replace Bb := Bb.ext e5
  replace Bc := Bc.ext e5
  replace E0 := E0.trans e5
  clear e5
  obtain ⟨a0, a1, a2⟩ := id Ba
  obtain ⟨b0, b1, b2⟩ := id Bb
  obtain ⟨c0, c1, c2⟩ := id Bc
  have hwx : IntKind.i64.wrap (-x) = -x := IntWalk.i64_in _ (by omega)
  go_wp2
  have hw := HW.out
  go_region_held3 (fun w' => (w'.cell? ⟨w.heap.size, 0, none⟩ = some (.bool nba) ∧ w'.cell? ⟨w.heap.size, 1, none⟩ = some Ma ∧ w'.cell? ⟨w.heap.size, 2, none⟩ = some (.int .i64 ia)) ∧ (w'.cell? ⟨w.heap.size + 1, 0, none⟩ = some (.bool nbb) ∧ w'.cell? ⟨w.heap.size + 1, 1, none⟩ = some Mb ∧ w'.cell? ⟨w.heap.size + 1, 2, none⟩ = some (.int .i64 ib)) ∧ (w'.cell? ⟨w.heap.size + 1 + 1, 0, none⟩ = some (.bool nbc) ∧ w'.cell? ⟨w.heap.size + 1 + 1, 1, none⟩ = some Mc ∧ w'.cell? ⟨w.heap.size + 1 + 1, 2, none⟩ = some (.int .i64 ic)))
    (first | (with_reducible exact ⟨box3 (Ba.ext F15), box3 (Bb.ext F15), box3 (Bc.ext F15)⟩) | (with_reducible exact ⟨box3 (Ba.ext F14), box3 (Bb.ext F14), box3 (Bc.ext F14)⟩) | (with_reducible exact ⟨box3 (Ba.ext F13), box3 (Bb.ext F13), box3 (Bc.ext F13)⟩) | (with_reducible exact ⟨box3 (Ba.ext F12), box3 (Bb.ext F12), box3 (Bc.ext F12)⟩) | (with_reducible exact ⟨box3 (Ba.ext F11), box3 (Bb.ext F11), box3 (Bc.ext F11)⟩) | (with_reducible exact ⟨box3 (Ba.ext F10), box3 (Bb.ext F10), box3 (Bc.ext F10)⟩) | (with_reducible exact ⟨box3 (Ba.ext F9), box3 (Bb.ext F9), box3 (Bc.ext F9)⟩) | (with_reducible exact ⟨box3 (Ba.ext F8), box3 (Bb.ext F8), box3 (Bc.ext F8)⟩) | (with_reducible exact ⟨box3 (Ba.ext F7), box3 (Bb.ext F7), box3 (Bc.ext F7)⟩) | (with_reducible exact ⟨box3 (Ba.ext F6), box3 (Bb.ext F6), box3 (Bc.ext F6)⟩) | (with_reducible exact ⟨box3 (Ba.ext F5), box3 (Bb.ext F5), box3 (Bc.ext F5)⟩) | (with_reducible exact ⟨box3 (Ba.ext F4), box3 (Bb.ext F4), box3 (Bc.ext F4)⟩) | (with_reducible exact ⟨box3 (Ba.ext F3), box3 (Bb.ext F3), box3 (Bc.ext F3)⟩) | (with_reducible exact ⟨box3 (Ba.ext F2), box3 (Bb.ext F2), box3 (Bc.ext F2)⟩) | (with_reducible exact ⟨box3 (Ba.ext F1), box3 (Bb.ext F1), box3 (Bc.ext F1)⟩) | go_keep)
    (first | ((have hF15 := F14); (go_at_call 20); (refine (sign_lit _ _ Xb gb HQ.out.2.2.2.2.2.2.1 (nb.ext F14)).mono ?_); (rintro _ u15 ⟨rfl, eu15⟩); (have F15 : Ext w5 u15 := F14.trans eu15)) | ((have hF14 := F13); (go_at_call 20); (refine (sign_lit _ _ Xa ga HQ.out.2.2.2.2.2.1 (na.ext F13)).mono ?_); (rintro _ u14 ⟨rfl, eu14⟩); (have F14 : Ext w5 u14 := F13.trans eu14)) | ((have hF13 := F12); (go_at_call 20); (refine (sign_lit _ _ (Xa * Xb) (ga * gb) HQ.out.2.2.2.2.2.2.2.1 m12).mono ?_); (rintro _ u13 ⟨rfl, eu13⟩); (have F13 : Ext w5 u13 := F12.trans eu13); (replace m12 := m12.ext eu13)) | ((have hF12 := F11); (go_at_call 16); (refine (mulD_any _ _ _ Xa Xb 200 392 200 392 (na.ext F11) (nb.ext F11) ra rb (by omega) (by omega) (T.ext F11)).mono ?_); (rintro _ u12 ⟨vu12, rfl, m12, eu12⟩); (have F12 : Ext w5 u12 := F11.trans eu12)) | ((have hF11 := F10); (go_at_call 20); (refine (sign_lit _ _ Xa ga HQ.out.2.2.2.2.2.1 (na.ext F10)).mono ?_); (rintro _ u11 ⟨rfl, eu11⟩); (have F11 : Ext w5 u11 := F10.trans eu11)) | ((have hF10 := F9); (go_at_call 18); (refine (cmp_lit _ _ _ Xa 0 200 392 20 31 ga HQ.out.2.2.2.2.2.1 (na.ext F9) (Dn.zero _) ra (by rw [← dy_zero 0]; exact rg_lit 0 0 (by omega) (by omega)) (by omega) (by omega)).mono ?_); (rintro _ u10 ⟨rfl, eu10⟩); (have F10 : Ext w5 u10 := F9.trans eu10)) | ((have hF9 := F8); (go_at_call 20); (refine (sign_lit _ _ (Xa + -Xb) x HQ.out.2.2.2.2.1 m8).mono ?_); (rintro _ u9 ⟨rfl, eu9⟩); (have F9 : Ext w5 u9 := F8.trans eu9); (replace m8 := m8.ext eu9)) | ((have hF8 := F7); (go_at_call 14); (refine (addD_any _ _ _ Xa (-Xb) 200 392 (na.ext F7) m7 ra rb.neg (by omega) (T.ext F7)).mono ?_); (rintro _ u8 ⟨vu8, rfl, m8, eu8⟩); (have F8 : Ext w5 u8 := F7.trans eu8); (replace m7 := m7.ext eu8)) | ((have hF7 := F6); (go_at_call 22); (refine (flipD_any _ _ Xb 200 392 (nb.ext F6) rb (by omega) (T.ext F6)).mono ?_); (rintro _ u7 ⟨vu7, rfl, m7, eu7⟩); (have F7 : Ext w5 u7 := F6.trans eu7)) | ((have hF6 := F5); (go_at_call 18); (refine (cmp_lit _ _ _ (-Xa) (-Xb) 200 392 200 392 (-x) HQ.out.2.2.2.1 m4 m5 ra.neg rb.neg (by omega) (by omega)).mono ?_); (rintro _ u6 ⟨rfl, eu6⟩); (have F6 : Ext w5 u6 := F5.trans eu6); (replace m4 := m4.ext eu6); (replace m5 := m5.ext eu6)) | ((have hF5 := F4); (go_at_call 22); (refine (flipD_any _ _ Xb 200 392 (nb.ext F4) rb (by omega) (T.ext F4)).mono ?_); (rintro _ u5 ⟨vu5, rfl, m5, eu5⟩); (have F5 : Ext w5 u5 := F4.trans eu5); (replace m4 := m4.ext eu5)) | ((have hF4 := F3); (go_at_call 22); (refine (flipD_any _ _ Xa 200 392 (na.ext F3) ra (by omega) (T.ext F3)).mono ?_); (rintro _ u4 ⟨vu4, rfl, m4, eu4⟩); (have F4 : Ext w5 u4 := F3.trans eu4)) | ((have hF3 := F2); (go_at_call 18); (refine (cmp_lit _ _ _ (Xa + Xc) (Xb + Xc) 200 393 200 393 x HQ.out.2.2.1 m1 m2 rac rbc (by omega) (by omega)).mono ?_); (rintro _ u3 ⟨rfl, eu3⟩); (have F3 : Ext w5 u3 := F2.trans eu3); (replace m1 := m1.ext eu3); (replace m2 := m2.ext eu3)) | ((have hF2 := F1); (go_at_call 14); (refine (addD_any _ _ _ Xb Xc 200 392 (nb.ext F1) (nc.ext F1) rb rc (by omega) (T.ext F1)).mono ?_); (rintro _ u2 ⟨vu2, rfl, m2, eu2⟩); (have F2 : Ext w5 u2 := F1.trans eu2); (replace m1 := m1.ext eu2)) | ((go_at_call 14); (refine (addD_any _ _ _ Xa Xc 200 392 (na.ext (Ext.refl w5).drew) (nc.ext (Ext.refl w5).drew) ra rc (by omega) (T.ext (Ext.refl w5).drew)).mono ?_); (rintro _ u1 ⟨vu1, rfl, m1, eu1⟩); (have F1 : Ext w5 u1 := (Ext.refl w5).drew.trans eu1)))
  go_wp2
  go_ret
  exact ⟨rfl, E0.trans F15⟩
set_option maxRecDepth 100000 in
theorem order_bad (w : World) (T : Tb w) (nba : Bool) (Ma : Value) (xa : List Int) (ia : Int) (rowa : Row w Ma xa) (bda : -9223372036854775808 ≤ ia ∧ ia ≤ 9223372036854775807) (nbb : Bool) (Mb : Value) (xb : List Int) (ib : Int) (rowb : Row w Mb xb) (bdb : -9223372036854775808 ≤ ib ∧ ib ≤ 9223372036854775807) (nbc : Bool) (Mc : Value) (xc : List Int) (ic : Int) (rowc : Row w Mc xc) (bdc : -9223372036854775808 ≤ ic ∧ ic ≤ 9223372036854775807)   (hg : goodAll 3 (pk nba nbb nbc) (pk xa xb xc) (pk ia ib ic) = false) :
    Calls Tryd.prog 5 #[.agg #[.bool nba, Ma, .int .i64 ia], .agg #[.bool nbb, Mb, .int .i64 ib], .agg #[.bool nbc, Mc, .int .i64 ic]] w (RetE w (.bool true)) := by
  go_enter Tryd.func5, Tryd.ntmps5
  go_wp2_with fail
  refine (headD_any _ (T.ext ((((Ext.refl w).alloc _).alloc _).alloc _))).mono ?_
  rintro _ w1 ⟨rfl, e1⟩
  have E0 : Ext w w1 := ((((Ext.refl w).alloc _).alloc _).alloc _).trans e1
  have Ba : Box w1 (w.heap.size) (.bool nba) Ma (.int .i64 ia) := Box.at ((((Ext.refl _).alloc _).alloc _).trans e1) (by simp)
  have Bb : Box w1 (w.heap.size + 1) (.bool nbb) Mb (.int .i64 ib) := Box.at (((Ext.refl _).alloc _).trans e1) (by simp)
  have Bc : Box w1 (w.heap.size + 1 + 1) (.bool nbc) Mc (.int .i64 ic) := Box.at ((Ext.refl _).trans e1) (by simp)
  replace T := T.ext E0
  replace rowa := rowa.ext E0
  replace rowb := rowb.ext E0
  replace rowc := rowc.ext E0
  clear e1
  obtain ⟨a0, a1, a2⟩ := id Ba
  obtain ⟨b0, b1, b2⟩ := id Bb
  obtain ⟨c0, c1, c2⟩ := id Bc
  have HG := Lib.hid (good_any _ _ 3 3 _ _ _ _ (by omega) (many3 w1 24 nba nbb nbc Ma Mb Mc xa xb xc ia ib ic rowa rowb rowc bda bdb bdc))
  rw [hg] at HG
  clear hg
  go_wp2_with fail
  refine HG.out.mono ?_
  rintro _ w2 ⟨rfl, f2⟩
  have e2 : Ext w1 w2 := ((Ext.refl _).alloc _).trans f2
  go_wp2
  go_ret
  exact ⟨rfl, E0.trans e2⟩
theorem walk_DyaOrder (w : World) (T : Tb w) (nba : Bool) (Ma : Value) (xa : List Int) (ia : Int) (rowa : Row w Ma xa) (bda : -9223372036854775808 ≤ ia ∧ ia ≤ 9223372036854775807) (nbb : Bool) (Mb : Value) (xb : List Int) (ib : Int) (rowb : Row w Mb xb) (bdb : -9223372036854775808 ≤ ib ∧ ib ≤ 9223372036854775807) (nbc : Bool) (Mc : Value) (xc : List Int) (ic : Int) (rowc : Row w Mc xc) (bdc : -9223372036854775808 ≤ ic ∧ ic ≤ 9223372036854775807) :
    Calls Tryd.prog 5 #[.agg #[.bool nba, Ma, .int .i64 ia], .agg #[.bool nbb, Mb, .int .i64 ib], .agg #[.bool nbc, Mc, .int .i64 ic]] w (RetE w (.bool true)) := by
  cases hg : goodAll 3 (pk nba nbb nbc) (pk xa xb xc) (pk ia ib ic)
  · exact order_bad w T nba Ma xa ia rowa bda nbb Mb xb ib rowb bdb nbc Mc xc ic rowc bdc hg
  · exact order_in w T nba Ma xa ia rowa bda nbb Mb xb ib rowb bdb nbc Mc xc ic rowc bdc hg

end Go.Proofs.YtjnnodbejnmkmaaDoor
