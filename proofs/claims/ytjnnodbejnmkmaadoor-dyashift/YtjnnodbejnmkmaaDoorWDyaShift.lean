/- The walk of DyaShift. -/
import Derived.Test.YtjnnodbejnmkmaaDoorG3
namespace Go.Proofs.YtjnnodbejnmkmaaDoor
open Go.RowKit

set_option maxRecDepth 100000 in
set_option maxHeartbeats 4000000 in
theorem shift_in (w : World) (T : Tb w) (nba : Bool) (Ma : Value) (xa : List Int) (ia : Int) (rowa : Row w Ma xa) (bda : -9223372036854775808 ≤ ia ∧ ia ≤ 9223372036854775807) (nbb : Bool) (Mb : Value) (xb : List Int) (ib : Int) (rowb : Row w Mb xb) (bdb : -9223372036854775808 ≤ ib ∧ ib ≤ 9223372036854775807) (k : Int) (hk : -500 ≤ k ∧ k ≤ 500) (hg : goodAll 2 (pk nba nbb nbb) (pk xa xb xb) (pk ia ib ib) = true) :
    Calls Tryd.prog 7 #[.agg #[.bool nba, Ma, .int .i64 ia], .agg #[.bool nbb, Mb, .int .i64 ib], .int .i64 k] w (RetE w (.bool true)) := by
  go_enter Tryd.func7, Tryd.ntmps7
  go_wp2_with fail
  refine (headD_any _ (T.ext (((Ext.refl w).alloc _).alloc _))).mono ?_
  rintro _ w1 ⟨rfl, e1⟩
  have E0 : Ext w w1 := (((Ext.refl w).alloc _).alloc _).trans e1
  have Ba : Box w1 (w.heap.size) (.bool nba) Ma (.int .i64 ia) := Box.at (((Ext.refl _).alloc _).trans e1) (by simp)
  have Bb : Box w1 (w.heap.size + 1) (.bool nbb) Mb (.int .i64 ib) := Box.at ((Ext.refl _).trans e1) (by simp)
  replace T := T.ext E0
  replace rowa := rowa.ext E0
  replace rowb := rowb.ext E0
  clear e1
  obtain ⟨a0, a1, a2⟩ := id Ba
  obtain ⟨b0, b1, b2⟩ := id Bb
  have HG := Lib.hid (good_any _ _ 2 2 _ _ _ _ (by omega) (many2 w1 24 nba nbb Ma Mb xa xb ia ib rowa rowb bda bdb))
  rw [hg] at HG
  have hall := pk_all (goodAll_true hg)
  clear hg
  obtain ⟨za, na, ca, la, ea1, ea2, ra⟩ := good_num rowa (hall.1 (by omega))
  obtain ⟨zb, nb, cb, lb, eb1, eb2, rb⟩ := good_num rowb (hall.2.1 (by omega))
  have ta : Bt 192 200 (dy za ia) := ⟨za, ia, rfl, ca, la, by omega, by omega⟩
  clear hall ca cb la lb bda bdb
  go_wp2_with fail
  refine HG.out.mono ?_
  rintro _ w2 ⟨rfl, f2⟩
  have e2 : Ext w1 w2 := ((Ext.refl _).alloc _).trans f2
  generalize dy za ia = xA at *
  generalize dy zb ib = xB at *
  clear HG f2 rowa rowb a0 a1 a2 b0 b1 b2
  replace T := T.ext e2
  replace na := na.ext e2
  replace nb := nb.ext e2
  replace Ba := Ba.ext e2
  replace Bb := Bb.ext e2
  replace E0 := E0.trans e2
  clear e2
  obtain ⟨a0, a1, a2⟩ := id Ba
  obtain ⟨b0, b1, b2⟩ := id Bb
  have ru : Rg 500 501 (dy 1 k) := Rg.pow (K := 500) (by omega)
  have rs := ra.mul ru
  have rsb := rb.mul ru
  have ts := ta.shift (Y := 500) (k := k) (by omega)
  have hks : IntKind.i64.wrap (-k) = -k := IntWalk.i64_in _ (by omega)
  go_wp2_with fail
  refine (shiftN_any _ _ xA (xA * dy 1 k) k 200 392 rfl na ra (by omega) (by omega) T).mono ?_
  rintro _ w3 ⟨v3, rfl, n3, e3⟩
  obtain ⟨b3, A3, l3, c3, i3, rfl⟩ := n3.form
  have f3 : Ext w3 (w3.alloc (.cells #[.bool b3, .slice A3 l3 c3, .int .i64 i3] 24)) := (Ext.refl _).alloc _
  have Bs : Box (w3.alloc (.cells #[.bool b3, .slice A3 l3 c3, .int .i64 i3] 24)) w3.heap.size (.bool b3) (.slice A3 l3 c3) (.int .i64 i3) := Box.at (Ext.refl _) rfl
  clear a0 a1 a2 b0 b1 b2
  have e4 := e3.trans f3
  replace n3 := n3.ext f3
  replace T := T.ext e4
  replace na := na.ext e4
  replace nb := nb.ext e4
  replace Ba := Ba.ext e4
  replace Bb := Bb.ext e4
  replace E0 := E0.trans e4
  clear e3 e4 f3
  go_wp2
  generalize hW0 : w3.alloc (.cells #[.bool b3, .slice A3 l3 c3, .int .i64 i3] 24) = W0 at *
  clear hW0
  obtain ⟨a0, a1, a2⟩ := id Ba
  obtain ⟨b0, b1, b2⟩ := id Bb
  obtain ⟨s0, s1, s2⟩ := id Bs
  obtain ⟨S, hS⟩ : ∃ S, S = xA * dy 1 k := ⟨_, rfl⟩
  rw [← hS] at n3 rs ts
  have q1 : S * dy 1 (-k) = xA := by rw [hS]; have := dy_pows k; grind
  have q2 : xA * dy 1 k = S := hS.symm
  have q3 : cmpD S (xB * dy 1 k) = cmpD xA xB := by rw [hS]; exact cmpD_shift _ _ _
  have q4 : xA * dy 1 1 = xA + xA := by rw [dy_two]; grind
  obtain ⟨c, hc⟩ : ∃ c, cmpD xA xB = c := ⟨_, rfl⟩
  rw [hc] at q3
  have HQ := Lib.hid (And.intro q1 (And.intro q2 (And.intro q3 (And.intro q4 hc))))
  clear q1 q2 q3 q4 hS hc
  go_region_held3 (fun w' => (w'.cell? ⟨w.heap.size, 0, none⟩ = some (.bool nba) ∧ w'.cell? ⟨w.heap.size, 1, none⟩ = some Ma ∧ w'.cell? ⟨w.heap.size, 2, none⟩ = some (.int .i64 ia)) ∧ (w'.cell? ⟨w.heap.size + 1, 0, none⟩ = some (.bool nbb) ∧ w'.cell? ⟨w.heap.size + 1, 1, none⟩ = some Mb ∧ w'.cell? ⟨w.heap.size + 1, 2, none⟩ = some (.int .i64 ib)) ∧ (w'.cell? ⟨w3.heap.size, 0, none⟩ = some (.bool b3) ∧ w'.cell? ⟨w3.heap.size, 1, none⟩ = some (.slice A3 l3 c3) ∧ w'.cell? ⟨w3.heap.size, 2, none⟩ = some (.int .i64 i3)))
    (first | (with_reducible exact ⟨box3 (Ba.ext F11), box3 (Bb.ext F11), box3 (Bs.ext F11)⟩) | (with_reducible exact ⟨box3 (Ba.ext F10), box3 (Bb.ext F10), box3 (Bs.ext F10)⟩) | (with_reducible exact ⟨box3 (Ba.ext F9), box3 (Bb.ext F9), box3 (Bs.ext F9)⟩) | (with_reducible exact ⟨box3 (Ba.ext F8), box3 (Bb.ext F8), box3 (Bs.ext F8)⟩) | (with_reducible exact ⟨box3 (Ba.ext F7), box3 (Bb.ext F7), box3 (Bs.ext F7)⟩) | (with_reducible exact ⟨box3 (Ba.ext F6), box3 (Bb.ext F6), box3 (Bs.ext F6)⟩) | (with_reducible exact ⟨box3 (Ba.ext F5), box3 (Bb.ext F5), box3 (Bs.ext F5)⟩) | (with_reducible exact ⟨box3 (Ba.ext F4), box3 (Bb.ext F4), box3 (Bs.ext F4)⟩) | (with_reducible exact ⟨box3 (Ba.ext (F3.alloc _)), box3 (Bb.ext (F3.alloc _)), box3 (Bs.ext (F3.alloc _))⟩) | (with_reducible exact ⟨box3 (Ba.ext F3), box3 (Bb.ext F3), box3 (Bs.ext F3)⟩) | (with_reducible exact ⟨box3 (Ba.ext F2), box3 (Bb.ext F2), box3 (Bs.ext F2)⟩) | (with_reducible exact ⟨box3 (Ba.ext F1), box3 (Bb.ext F1), box3 (Bs.ext F1)⟩) | go_keep)
    (first | ((have hF11 := F10); (go_at_call 13); (refine (rsameD_eq _ _ _ (xA + xA) m9 m10).mono ?_); (rintro _ u11 ⟨rfl, eu11⟩); (have F11 : Ext W0 u11 := F10.trans eu11); (replace m9 := m9.ext eu11); (replace m10 := m10.ext eu11)) | ((have hF10 := F9); (go_at_call 24); (refine (shiftN_any _ _ xA (xA + xA) 1 200 392 HQ.out.2.2.2.1 (na.ext F9) ra (by omega) (by omega) (T.ext F9)).mono ?_); (rintro _ u10 ⟨vu10, rfl, m10, eu10⟩); (have F10 : Ext W0 u10 := F9.trans eu10); (replace m9 := m9.ext eu10)) | ((have hF9 := F8); (go_at_call 14); (refine (add_lit _ _ _ xA xA (xA + xA) 200 392 rfl (na.ext F8) (na.ext F8) ra ra (by omega) (T.ext F8)).mono ?_); (rintro _ u9 ⟨vu9, rfl, m9, eu9⟩); (have F9 : Ext W0 u9 := F8.trans eu9)) | ((have hF8 := F7); (go_at_call 18); (refine (cmp_lit _ _ _ xA xB 200 392 200 392 c HQ.out.2.2.2.2 (na.ext F7) (nb.ext F7) ra rb (by omega) (by omega)).mono ?_); (rintro _ u8 ⟨rfl, eu8⟩); (have F8 : Ext W0 u8 := F7.trans eu8)) | ((have hF7 := F6); (go_at_call 18); (refine (cmp_lit _ _ _ S (xB * dy 1 k) 700 893 700 893 c HQ.out.2.2.1 (n3.ext F6) m6 rs rsb (by omega) (by omega)).mono ?_); (rintro _ u7 ⟨rfl, eu7⟩); (have F7 : Ext W0 u7 := F6.trans eu7); (replace m6 := m6.ext eu7)) | ((have hF6 := F5); (go_at_call 24); (refine (shiftN_any _ _ xB (xB * dy 1 k) k 200 392 rfl (nb.ext F5) rb (by omega) (by omega) (T.ext F5)).mono ?_); (rintro _ u6 ⟨vu6, rfl, m6, eu6⟩); (have F6 : Ext W0 u6 := F5.trans eu6)) | ((have hF5 := F4); (go_at_call 13); (refine (rsameD_eq _ _ _ S (n3.ext F4) m4).mono ?_); (rintro _ u5 ⟨rfl, eu5⟩); (have F5 : Ext W0 u5 := F4.trans eu5); (replace m4 := m4.ext eu5)) | ((have hF4 := F3); (go_at_call 16); (refine (mul_lit _ _ _ xA (dy 1 k) S 200 392 500 501 HQ.out.2.1 (na.ext (F3.alloc _)) (lit_dn _ 1 k 1 false _ (by omega) (by omega) (by omega) (by decide)) ra ru (by omega) (by omega) (T.ext (F3.alloc _))).mono ?_); (rintro _ u4 ⟨vu4, rfl, m4, eu4⟩); (have F4 : Ext W0 u4 := (F3.alloc _).trans eu4)) | ((have hF3 := F2); (go_at_call 13); (refine (rsameD_eq _ _ _ xA m2 (na.ext F2)).mono ?_); (rintro _ u3 ⟨rfl, eu3⟩); (have F3 : Ext W0 u3 := F2.trans eu3); (replace m2 := m2.ext eu3)) | ((have hF2 := F1); (go_at_call 24); (refine (shiftN_any _ _ S xA (-k) 700 893 HQ.out.1 (n3.ext F1) rs (by omega) (by omega) (T.ext F1)).mono ?_); (rintro _ u2 ⟨vu2, rfl, m2, eu2⟩); (have F2 : Ext W0 u2 := F1.trans eu2)) | ((go_at_call 11); (refine (rrightBt_any _ _ S 192 700 (n3.ext (Ext.refl W0).drew) ts (by omega) (by omega)).mono ?_); (rintro _ u1 ⟨rfl, eu1⟩); (have F1 : Ext W0 u1 := (Ext.refl W0).drew.trans eu1)))
  go_wp2
  go_ret
  exact ⟨rfl, E0.trans F11⟩

set_option maxRecDepth 100000 in
theorem shift_bad (w : World) (T : Tb w) (nba : Bool) (Ma : Value) (xa : List Int) (ia : Int) (rowa : Row w Ma xa) (bda : -9223372036854775808 ≤ ia ∧ ia ≤ 9223372036854775807) (nbb : Bool) (Mb : Value) (xb : List Int) (ib : Int) (rowb : Row w Mb xb) (bdb : -9223372036854775808 ≤ ib ∧ ib ≤ 9223372036854775807) (k : Int)  (hg : goodAll 2 (pk nba nbb nbb) (pk xa xb xb) (pk ia ib ib) = false) :
    Calls Tryd.prog 7 #[.agg #[.bool nba, Ma, .int .i64 ia], .agg #[.bool nbb, Mb, .int .i64 ib], .int .i64 k] w (RetE w (.bool true)) := by
  go_enter Tryd.func7, Tryd.ntmps7
  go_wp2_with fail
  refine (headD_any _ (T.ext (((Ext.refl w).alloc _).alloc _))).mono ?_
  rintro _ w1 ⟨rfl, e1⟩
  have E0 : Ext w w1 := (((Ext.refl w).alloc _).alloc _).trans e1
  have Ba : Box w1 (w.heap.size) (.bool nba) Ma (.int .i64 ia) := Box.at (((Ext.refl _).alloc _).trans e1) (by simp)
  have Bb : Box w1 (w.heap.size + 1) (.bool nbb) Mb (.int .i64 ib) := Box.at ((Ext.refl _).trans e1) (by simp)
  replace T := T.ext E0
  replace rowa := rowa.ext E0
  replace rowb := rowb.ext E0
  clear e1
  obtain ⟨a0, a1, a2⟩ := id Ba
  obtain ⟨b0, b1, b2⟩ := id Bb
  have HG := Lib.hid (good_any _ _ 2 2 _ _ _ _ (by omega) (many2 w1 24 nba nbb Ma Mb xa xb ia ib rowa rowb bda bdb))
  rw [hg] at HG
  clear hg
  go_wp2_with fail
  refine HG.out.mono ?_
  rintro _ w2 ⟨rfl, f2⟩
  have e2 : Ext w1 w2 := ((Ext.refl _).alloc _).trans f2
  go_wp2
  go_ret
  exact ⟨rfl, E0.trans e2⟩

set_option maxRecDepth 100000 in
theorem shift_low (w : World) (T : Tb w) (nba : Bool) (Ma : Value) (xa : List Int) (ia : Int) (rowa : Row w Ma xa) (bda : -9223372036854775808 ≤ ia ∧ ia ≤ 9223372036854775807) (nbb : Bool) (Mb : Value) (xb : List Int) (ib : Int) (rowb : Row w Mb xb) (bdb : -9223372036854775808 ≤ ib ∧ ib ≤ 9223372036854775807) (k : Int) (hk : k < -500) (hg : goodAll 2 (pk nba nbb nbb) (pk xa xb xb) (pk ia ib ib) = true) :
    Calls Tryd.prog 7 #[.agg #[.bool nba, Ma, .int .i64 ia], .agg #[.bool nbb, Mb, .int .i64 ib], .int .i64 k] w (RetE w (.bool true)) := by
  go_enter Tryd.func7, Tryd.ntmps7
  go_wp2_with fail
  refine (headD_any _ (T.ext (((Ext.refl w).alloc _).alloc _))).mono ?_
  rintro _ w1 ⟨rfl, e1⟩
  have E0 : Ext w w1 := (((Ext.refl w).alloc _).alloc _).trans e1
  have Ba : Box w1 (w.heap.size) (.bool nba) Ma (.int .i64 ia) := Box.at (((Ext.refl _).alloc _).trans e1) (by simp)
  have Bb : Box w1 (w.heap.size + 1) (.bool nbb) Mb (.int .i64 ib) := Box.at ((Ext.refl _).trans e1) (by simp)
  replace T := T.ext E0
  replace rowa := rowa.ext E0
  replace rowb := rowb.ext E0
  clear e1
  obtain ⟨a0, a1, a2⟩ := id Ba
  obtain ⟨b0, b1, b2⟩ := id Bb
  have HG := Lib.hid (good_any _ _ 2 2 _ _ _ _ (by omega) (many2 w1 24 nba nbb Ma Mb xa xb ia ib rowa rowb bda bdb))
  rw [hg] at HG
  clear hg
  go_wp2_with fail
  refine HG.out.mono ?_
  rintro _ w2 ⟨rfl, f2⟩
  have e2 : Ext w1 w2 := ((Ext.refl _).alloc _).trans f2
  go_wp2
  go_ret
  exact ⟨rfl, E0.trans e2⟩

set_option maxRecDepth 100000 in
theorem shift_high (w : World) (T : Tb w) (nba : Bool) (Ma : Value) (xa : List Int) (ia : Int) (rowa : Row w Ma xa) (bda : -9223372036854775808 ≤ ia ∧ ia ≤ 9223372036854775807) (nbb : Bool) (Mb : Value) (xb : List Int) (ib : Int) (rowb : Row w Mb xb) (bdb : -9223372036854775808 ≤ ib ∧ ib ≤ 9223372036854775807) (k : Int) (hk0 : ¬ k < -500) (hk : 500 < k) (hg : goodAll 2 (pk nba nbb nbb) (pk xa xb xb) (pk ia ib ib) = true) :
    Calls Tryd.prog 7 #[.agg #[.bool nba, Ma, .int .i64 ia], .agg #[.bool nbb, Mb, .int .i64 ib], .int .i64 k] w (RetE w (.bool true)) := by
  go_enter Tryd.func7, Tryd.ntmps7
  go_wp2_with fail
  refine (headD_any _ (T.ext (((Ext.refl w).alloc _).alloc _))).mono ?_
  rintro _ w1 ⟨rfl, e1⟩
  have E0 : Ext w w1 := (((Ext.refl w).alloc _).alloc _).trans e1
  have Ba : Box w1 (w.heap.size) (.bool nba) Ma (.int .i64 ia) := Box.at (((Ext.refl _).alloc _).trans e1) (by simp)
  have Bb : Box w1 (w.heap.size + 1) (.bool nbb) Mb (.int .i64 ib) := Box.at ((Ext.refl _).trans e1) (by simp)
  replace T := T.ext E0
  replace rowa := rowa.ext E0
  replace rowb := rowb.ext E0
  clear e1
  obtain ⟨a0, a1, a2⟩ := id Ba
  obtain ⟨b0, b1, b2⟩ := id Bb
  have HG := Lib.hid (good_any _ _ 2 2 _ _ _ _ (by omega) (many2 w1 24 nba nbb Ma Mb xa xb ia ib rowa rowb bda bdb))
  rw [hg] at HG
  clear hg
  go_wp2_with fail
  refine HG.out.mono ?_
  rintro _ w2 ⟨rfl, f2⟩
  have e2 : Ext w1 w2 := ((Ext.refl _).alloc _).trans f2
  go_wp2
  go_ret
  exact ⟨rfl, E0.trans e2⟩

theorem walk_DyaShift (w : World) (T : Tb w) (nba : Bool) (Ma : Value) (xa : List Int) (ia : Int) (rowa : Row w Ma xa) (bda : -9223372036854775808 ≤ ia ∧ ia ≤ 9223372036854775807) (nbb : Bool) (Mb : Value) (xb : List Int) (ib : Int) (rowb : Row w Mb xb) (bdb : -9223372036854775808 ≤ ib ∧ ib ≤ 9223372036854775807) (k : Int) (_hk : -9223372036854775808 ≤ k ∧ k ≤ 9223372036854775807) :
    Calls Tryd.prog 7 #[.agg #[.bool nba, Ma, .int .i64 ia], .agg #[.bool nbb, Mb, .int .i64 ib], .int .i64 k] w (RetE w (.bool true)) := by
  cases hg : goodAll 2 (pk nba nbb nbb) (pk xa xb xb) (pk ia ib ib)
  · exact shift_bad w T nba Ma xa ia rowa bda nbb Mb xb ib rowb bdb k hg
  · by_cases h1 : k < -500
    · exact shift_low w T nba Ma xa ia rowa bda nbb Mb xb ib rowb bdb k h1 hg
    · by_cases h2 : 500 < k
      · exact shift_high w T nba Ma xa ia rowa bda nbb Mb xb ib rowb bdb k h1 h2 hg
      · exact shift_in w T nba Ma xa ia rowa bda nbb Mb xb ib rowb bdb k (by omega) hg

end Go.Proofs.YtjnnodbejnmkmaaDoor
