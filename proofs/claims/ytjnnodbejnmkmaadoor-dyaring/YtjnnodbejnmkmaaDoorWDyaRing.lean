/- The walk of DyaRing. -/
import Derived.Test.YtjnnodbejnmkmaaDoorG3
namespace Go.Proofs.YtjnnodbejnmkmaaDoor
open Go.RowKit

set_option maxRecDepth 100000 in
set_option maxHeartbeats 8000000 in
theorem ring_in (w : World) (T : Tb w) (nba : Bool) (Ma : Value) (xa : List Int) (ia : Int) (rowa : Row w Ma xa) (bda : -9223372036854775808 ≤ ia ∧ ia ≤ 9223372036854775807) (nbb : Bool) (Mb : Value) (xb : List Int) (ib : Int) (rowb : Row w Mb xb) (bdb : -9223372036854775808 ≤ ib ∧ ib ≤ 9223372036854775807) (nbc : Bool) (Mc : Value) (xc : List Int) (ic : Int) (rowc : Row w Mc xc) (bdc : -9223372036854775808 ≤ ic ∧ ic ≤ 9223372036854775807) (hg : goodAll 3 (pk nba nbb nbc) (pk xa xb xc) (pk ia ib ic) = true) :
    Calls Tryd.prog 4 #[.agg #[.bool nba, Ma, .int .i64 ia], .agg #[.bool nbb, Mb, .int .i64 ib], .agg #[.bool nbc, Mc, .int .i64 ic]] w (RetE w (.bool true)) := by
  go_enter Tryd.func4, Tryd.ntmps4
  go_wp2_with fail
  refine (headD_any _ (T.ext ((((Ext.refl w).alloc _).alloc _).alloc _))).mono ?_
  rintro _ w1 ⟨rfl, e1⟩
  have E0 : Ext w w1 := ((((Ext.refl w).alloc _).alloc _).alloc _).trans e1
  have Ba : Box w1 (w.heap.size) (.bool nba) Ma (.int .i64 ia) := Box.at ((((Ext.refl _).alloc _).alloc _).trans e1) (by simp)
  have Bb : Box w1 (w.heap.size + 1) (.bool nbb) Mb (.int .i64 ib) := Box.at (((Ext.refl _).alloc _).trans e1) (by simp)
  have Bc : Box w1 (w.heap.size + 1 + 1) (.bool nbc) Mc (.int .i64 ic) := Box.at ((Ext.refl _).trans e1) (by simp)
  replace T := T.ext E0
  replace rowa := rowa.ext E0
  replace rowb := rowb.ext E0
  replace rowc := rowc.ext E0
  clear e1
  obtain ⟨a0, a1, a2⟩ := id Ba
  obtain ⟨b0, b1, b2⟩ := id Bb
  obtain ⟨c0, c1, c2⟩ := id Bc
  have HG := Lib.hid (good_any _ _ 3 3 _ _ _ _ (by omega) (many3 w1 24 nba nbb nbc Ma Mb Mc xa xb xc ia ib ic rowa rowb rowc bda bdb bdc))
  rw [hg] at HG
  have hall := pk_all (goodAll_true hg)
  clear hg
  obtain ⟨za, na, ca, la, ja1, ja2, ra⟩ := good_num rowa (hall.1 (by omega))
  obtain ⟨zb, nb, cb, lb, jb1, jb2, rb⟩ := good_num rowb (hall.2.1 (by omega))
  obtain ⟨zc, nc, cc, lc, jc1, jc2, rc⟩ := good_num rowc (hall.2.2 (by omega))
  clear hall
  clear ca la bda cb lb bdb cc lc bdc
  go_wp2_with fail
  refine HG.out.mono ?_
  rintro _ w2 ⟨rfl, f2⟩
  have e2 : Ext w1 w2 := ((Ext.refl _).alloc _).trans f2
  generalize dy za ia = Xa at *
  generalize dy zb ib = Xb at *
  generalize dy zc ic = Xc at *
  clear HG f2 rowa a0 a1 a2 rowb b0 b1 b2 rowc c0 c1 c2
  replace T := T.ext e2
  replace na := na.ext e2
  replace nb := nb.ext e2
  replace nc := nc.ext e2
  replace Ba := Ba.ext e2
  replace Bb := Bb.ext e2
  replace Bc := Bc.ext e2
  replace E0 := E0.trans e2
  clear e2
  obtain ⟨a0, a1, a2⟩ := id Ba
  obtain ⟨b0, b1, b2⟩ := id Bb
  obtain ⟨c0, c1, c2⟩ := id Bc
  have rs := ra.add rb
  have rp := ra.mul rb
  have rbc := rb.add rc
  have rmbc := rb.mul rc
  have rac := ra.mul rc
  go_wp2_with fail
  refine (addD_any _ _ _ Xa Xb 200 392 na nb ra rb (by omega) T).mono ?_
  rintro _ w3 ⟨v3, rfl, ns, e3⟩
  obtain ⟨b3, A3, l3, c3, i3, rfl⟩ := ns.form
  have f3 : Ext w3 (w3.alloc (.cells #[.bool b3, .slice A3 l3 c3, .int .i64 i3] 24)) := (Ext.refl _).alloc _
  have Bs : Box (w3.alloc (.cells #[.bool b3, .slice A3 l3 c3, .int .i64 i3] 24)) w3.heap.size (.bool b3) (.slice A3 l3 c3) (.int .i64 i3) := Box.at (Ext.refl _) rfl
  clear a0 a1 a2 b0 b1 b2 c0 c1 c2
  replace ns := ns.ext f3
  have g3 := e3.trans f3
  replace T := T.ext g3
  replace na := na.ext g3
  replace nb := nb.ext g3
  replace nc := nc.ext g3
  replace Ba := Ba.ext g3
  replace Bb := Bb.ext g3
  replace Bc := Bc.ext g3
  replace E0 := E0.trans g3
  clear e3 f3 g3
  obtain ⟨a0, a1, a2⟩ := id Ba
  obtain ⟨b0, b1, b2⟩ := id Bb
  obtain ⟨c0, c1, c2⟩ := id Bc
  obtain ⟨s0, s1, s2⟩ := id Bs
  go_wp2_with fail
  refine (mulD_any _ _ _ Xa Xb 200 392 200 392 na nb ra rb (by omega) (by omega) T).mono ?_
  rintro _ w4 ⟨v4, rfl, np, e4⟩
  obtain ⟨b4, A4, l4, c4, i4, rfl⟩ := np.form
  have f4 : Ext w4 (w4.alloc (.cells #[.bool b4, .slice A4 l4 c4, .int .i64 i4] 24)) := (Ext.refl _).alloc _
  have Bp : Box (w4.alloc (.cells #[.bool b4, .slice A4 l4 c4, .int .i64 i4] 24)) w4.heap.size (.bool b4) (.slice A4 l4 c4) (.int .i64 i4) := Box.at (Ext.refl _) rfl
  clear a0 a1 a2 b0 b1 b2 c0 c1 c2 s0 s1 s2
  replace np := np.ext f4
  have g4 := e4.trans f4
  replace T := T.ext g4
  replace na := na.ext g4
  replace nb := nb.ext g4
  replace nc := nc.ext g4
  replace ns := ns.ext g4
  replace Ba := Ba.ext g4
  replace Bb := Bb.ext g4
  replace Bc := Bc.ext g4
  replace Bs := Bs.ext g4
  replace E0 := E0.trans g4
  clear e4 f4 g4
  obtain ⟨a0, a1, a2⟩ := id Ba
  obtain ⟨b0, b1, b2⟩ := id Bb
  obtain ⟨c0, c1, c2⟩ := id Bc
  obtain ⟨s0, s1, s2⟩ := id Bs
  obtain ⟨p0, p1, p2⟩ := id Bp
  go_wp2_with fail
  refine (rrightDn_any _ _ (Xa + Xb) 200 393 ns rs (by omega)).mono ?_
  rintro _ w5 ⟨rfl, e5⟩
  clear a0 a1 a2 b0 b1 b2 c0 c1 c2 s0 s1 s2 p0 p1 p2
  replace T := T.ext e5
  replace na := na.ext e5
  replace nb := nb.ext e5
  replace nc := nc.ext e5
  replace ns := ns.ext e5
  replace np := np.ext e5
  replace Ba := Ba.ext e5
  replace Bb := Bb.ext e5
  replace Bc := Bc.ext e5
  replace Bs := Bs.ext e5
  replace Bp := Bp.ext e5
  replace E0 := E0.trans e5
  clear e5
  obtain ⟨a0, a1, a2⟩ := id Ba
  obtain ⟨b0, b1, b2⟩ := id Bb
  obtain ⟨c0, c1, c2⟩ := id Bc
  obtain ⟨s0, s1, s2⟩ := id Bs
  obtain ⟨p0, p1, p2⟩ := id Bp
  go_wp2_with fail
  refine (rrightDn_any _ _ (Xa * Xb) 400 784 np rp (by omega)).mono ?_
  rintro _ w6 ⟨rfl, e6⟩
  clear a0 a1 a2 b0 b1 b2 c0 c1 c2 s0 s1 s2 p0 p1 p2
  replace T := T.ext e6
  replace na := na.ext e6
  replace nb := nb.ext e6
  replace nc := nc.ext e6
  replace ns := ns.ext e6
  replace np := np.ext e6
  replace Ba := Ba.ext e6
  replace Bb := Bb.ext e6
  replace Bc := Bc.ext e6
  replace Bs := Bs.ext e6
  replace Bp := Bp.ext e6
  replace E0 := E0.trans e6
  clear e6
  obtain ⟨a0, a1, a2⟩ := id Ba
  obtain ⟨b0, b1, b2⟩ := id Bb
  obtain ⟨c0, c1, c2⟩ := id Bc
  obtain ⟨s0, s1, s2⟩ := id Bs
  obtain ⟨p0, p1, p2⟩ := id Bp
  go_wp2
  have q1 : Xb + Xa = Xa + Xb := by grind
  have q2 : Xb * Xa = Xa * Xb := by grind
  have q3 : Xa + (Xb + Xc) = (Xa + Xb) + Xc := by grind
  have q4 : Xa * (Xb * Xc) = (Xa * Xb) * Xc := by grind
  have q5 : Xa * Xc + Xb * Xc = (Xa + Xb) * Xc := by grind
  have q6 : Xa + -Xa = 0 := by grind
  have q7 : -(-Xa) = Xa := by grind
  have q8 : Xa * dy 1 0 = Xa := by rw [dy_one]; grind
  have HQ := Lib.hid (And.intro q1 (And.intro q2 (And.intro q3 (And.intro q4 (And.intro q5 (And.intro q6 (And.intro q7 q8)))))))
  clear q1 q2 q3 q4 q5 q6 q7 q8
  have r1 : Rg 20 31 (dy 1 0) := rg_lit 1 0 (by omega) (by omega)
  have rs2 : Rg 200 393 Xa := ra.mono (by omega) (by omega)
  have rc2 : Rg 200 393 Xc := rc.mono (by omega) (by omega)
  simp only [List.append_eq, List.cons_append, List.nil_append]
  go_region_held3 (fun w' => (w'.cell? ⟨w.heap.size, 0, none⟩ = some (.bool nba) ∧ w'.cell? ⟨w.heap.size, 1, none⟩ = some Ma ∧ w'.cell? ⟨w.heap.size, 2, none⟩ = some (.int .i64 ia)) ∧ (w'.cell? ⟨w.heap.size + 1, 0, none⟩ = some (.bool nbb) ∧ w'.cell? ⟨w.heap.size + 1, 1, none⟩ = some Mb ∧ w'.cell? ⟨w.heap.size + 1, 2, none⟩ = some (.int .i64 ib)) ∧ (w'.cell? ⟨w.heap.size + 1 + 1, 0, none⟩ = some (.bool nbc) ∧ w'.cell? ⟨w.heap.size + 1 + 1, 1, none⟩ = some Mc ∧ w'.cell? ⟨w.heap.size + 1 + 1, 2, none⟩ = some (.int .i64 ic)) ∧ (w'.cell? ⟨w3.heap.size, 0, none⟩ = some (.bool b3) ∧ w'.cell? ⟨w3.heap.size, 1, none⟩ = some (.slice A3 l3 c3) ∧ w'.cell? ⟨w3.heap.size, 2, none⟩ = some (.int .i64 i3)) ∧ (w'.cell? ⟨w4.heap.size, 0, none⟩ = some (.bool b4) ∧ w'.cell? ⟨w4.heap.size, 1, none⟩ = some (.slice A4 l4 c4) ∧ w'.cell? ⟨w4.heap.size, 2, none⟩ = some (.int .i64 i4)))
    (first | (with_reducible exact ⟨box3 (Ba.ext F26), box3 (Bb.ext F26), box3 (Bc.ext F26), box3 (Bs.ext F26), box3 (Bp.ext F26)⟩) | (with_reducible exact ⟨box3 (Ba.ext F25), box3 (Bb.ext F25), box3 (Bc.ext F25), box3 (Bs.ext F25), box3 (Bp.ext F25)⟩) | (with_reducible exact ⟨box3 (Ba.ext F24), box3 (Bb.ext F24), box3 (Bc.ext F24), box3 (Bs.ext F24), box3 (Bp.ext F24)⟩) | (with_reducible exact ⟨box3 (Ba.ext F23), box3 (Bb.ext F23), box3 (Bc.ext F23), box3 (Bs.ext F23), box3 (Bp.ext F23)⟩) | (with_reducible exact ⟨box3 (Ba.ext F22), box3 (Bb.ext F22), box3 (Bc.ext F22), box3 (Bs.ext F22), box3 (Bp.ext F22)⟩) | (with_reducible exact ⟨box3 (Ba.ext F21), box3 (Bb.ext F21), box3 (Bc.ext F21), box3 (Bs.ext F21), box3 (Bp.ext F21)⟩) | (with_reducible exact ⟨box3 (Ba.ext F20), box3 (Bb.ext F20), box3 (Bc.ext F20), box3 (Bs.ext F20), box3 (Bp.ext F20)⟩) | (with_reducible exact ⟨box3 (Ba.ext F19), box3 (Bb.ext F19), box3 (Bc.ext F19), box3 (Bs.ext F19), box3 (Bp.ext F19)⟩) | (with_reducible exact ⟨box3 (Ba.ext F18), box3 (Bb.ext F18), box3 (Bc.ext F18), box3 (Bs.ext F18), box3 (Bp.ext F18)⟩) | (with_reducible exact ⟨box3 (Ba.ext F17), box3 (Bb.ext F17), box3 (Bc.ext F17), box3 (Bs.ext F17), box3 (Bp.ext F17)⟩) | (with_reducible exact ⟨box3 (Ba.ext F16), box3 (Bb.ext F16), box3 (Bc.ext F16), box3 (Bs.ext F16), box3 (Bp.ext F16)⟩) | (with_reducible exact ⟨box3 (Ba.ext F15), box3 (Bb.ext F15), box3 (Bc.ext F15), box3 (Bs.ext F15), box3 (Bp.ext F15)⟩) | (with_reducible exact ⟨box3 (Ba.ext F14), box3 (Bb.ext F14), box3 (Bc.ext F14), box3 (Bs.ext F14), box3 (Bp.ext F14)⟩) | (with_reducible exact ⟨box3 (Ba.ext F13), box3 (Bb.ext F13), box3 (Bc.ext F13), box3 (Bs.ext F13), box3 (Bp.ext F13)⟩) | (with_reducible exact ⟨box3 (Ba.ext F12), box3 (Bb.ext F12), box3 (Bc.ext F12), box3 (Bs.ext F12), box3 (Bp.ext F12)⟩) | (with_reducible exact ⟨box3 (Ba.ext F11), box3 (Bb.ext F11), box3 (Bc.ext F11), box3 (Bs.ext F11), box3 (Bp.ext F11)⟩) | (with_reducible exact ⟨box3 (Ba.ext F10), box3 (Bb.ext F10), box3 (Bc.ext F10), box3 (Bs.ext F10), box3 (Bp.ext F10)⟩) | (with_reducible exact ⟨box3 (Ba.ext F9), box3 (Bb.ext F9), box3 (Bc.ext F9), box3 (Bs.ext F9), box3 (Bp.ext F9)⟩) | (with_reducible exact ⟨box3 (Ba.ext F8), box3 (Bb.ext F8), box3 (Bc.ext F8), box3 (Bs.ext F8), box3 (Bp.ext F8)⟩) | (with_reducible exact ⟨box3 (Ba.ext F7), box3 (Bb.ext F7), box3 (Bc.ext F7), box3 (Bs.ext F7), box3 (Bp.ext F7)⟩) | (with_reducible exact ⟨box3 (Ba.ext F6), box3 (Bb.ext F6), box3 (Bc.ext F6), box3 (Bs.ext F6), box3 (Bp.ext F6)⟩) | (with_reducible exact ⟨box3 (Ba.ext F5), box3 (Bb.ext F5), box3 (Bc.ext F5), box3 (Bs.ext F5), box3 (Bp.ext F5)⟩) | (with_reducible exact ⟨box3 (Ba.ext F4), box3 (Bb.ext F4), box3 (Bc.ext F4), box3 (Bs.ext F4), box3 (Bp.ext F4)⟩) | (with_reducible exact ⟨box3 (Ba.ext F3), box3 (Bb.ext F3), box3 (Bc.ext F3), box3 (Bs.ext F3), box3 (Bp.ext F3)⟩) | (with_reducible exact ⟨box3 (Ba.ext F2), box3 (Bb.ext F2), box3 (Bc.ext F2), box3 (Bs.ext F2), box3 (Bp.ext F2)⟩) | (with_reducible exact ⟨box3 (Ba.ext F1), box3 (Bb.ext F1), box3 (Bc.ext F1), box3 (Bs.ext F1), box3 (Bp.ext F1)⟩) | go_keep)
    (first | ((have hF26 := F25); (go_at_call 13); (refine (rsameD_eq _ _ _ Xa m25 (na.ext F25)).mono ?_); (rintro _ u26 ⟨rfl, eu26⟩); (have F26 : Ext w6 u26 := F25.trans eu26); (replace m25 := m25.ext eu26)) | ((have hF25 := F24); (go_at_call 16); (refine (mul_lit _ _ _ Xa (dy 1 0) Xa 200 392 20 31 HQ.out.2.2.2.2.2.2.2 (na.ext F24) m24 ra r1 (by omega) (by omega) (T.ext F24)).mono ?_); (rintro _ u25 ⟨vu25, rfl, m25, eu25⟩); (have F25 : Ext w6 u25 := F24.trans eu25); (replace m24 := m24.ext eu25)) | ((have hF24 := F23); (go_at_call 28); (refine (ofD_any _ 1 (by omega) (T.ext F23)).mono ?_); (rintro _ u24 ⟨vu24, rfl, m24, eu24⟩); (have F24 : Ext w6 u24 := F23.trans eu24)) | ((have hF23 := F22); (go_at_call 13); (refine (rsameD_eq _ _ _ Xa m22 (na.ext F22)).mono ?_); (rintro _ u23 ⟨rfl, eu23⟩); (have F23 : Ext w6 u23 := F22.trans eu23); (replace m22 := m22.ext eu23)) | ((have hF22 := F21); (go_at_call 22); (refine (flip_lit _ _ (-Xa) Xa 200 392 HQ.out.2.2.2.2.2.2.1 m21 ra.neg (by omega) (T.ext F21)).mono ?_); (rintro _ u22 ⟨vu22, rfl, m22, eu22⟩); (have F22 : Ext w6 u22 := F21.trans eu22); (replace m21 := m21.ext eu22)) | ((have hF21 := F20); (go_at_call 22); (refine (flipD_any _ _ Xa 200 392 (na.ext F20) ra (by omega) (T.ext F20)).mono ?_); (rintro _ u21 ⟨vu21, rfl, m21, eu21⟩); (have F21 : Ext w6 u21 := F20.trans eu21)) | ((have hF20 := F19); (go_at_call 13); (refine (rsameD_eq _ _ _ 0 m19 (Dn.zero _)).mono ?_); (rintro _ u20 ⟨rfl, eu20⟩); (have F20 : Ext w6 u20 := F19.trans eu20); (replace m19 := m19.ext eu20)) | ((have hF19 := F18); (go_at_call 14); (refine (add_lit _ _ _ Xa (-Xa) 0 200 392 HQ.out.2.2.2.2.2.1 (na.ext F18) m18 ra ra.neg (by omega) (T.ext F18)).mono ?_); (rintro _ u19 ⟨vu19, rfl, m19, eu19⟩); (have F19 : Ext w6 u19 := F18.trans eu19); (replace m18 := m18.ext eu19)) | ((have hF18 := F17); (go_at_call 22); (refine (flipD_any _ _ Xa 200 392 (na.ext F17) ra (by omega) (T.ext F17)).mono ?_); (rintro _ u18 ⟨vu18, rfl, m18, eu18⟩); (have F18 : Ext w6 u18 := F17.trans eu18)) | ((have hF17 := F16); (go_at_call 13); (refine (rsameD_eq _ _ _ ((Xa + Xb) * Xc) m13 m16).mono ?_); (rintro _ u17 ⟨rfl, eu17⟩); (have F17 : Ext w6 u17 := F16.trans eu17); (replace m13 := m13.ext eu17); (replace m16 := m16.ext eu17)) | ((have hF16 := F15); (go_at_call 14); (refine (add_lit _ _ _ (Xa * Xc) (Xb * Xc) ((Xa + Xb) * Xc) 400 784 HQ.out.2.2.2.2.1 m14 m15 rac rmbc (by omega) (T.ext F15)).mono ?_); (rintro _ u16 ⟨vu16, rfl, m16, eu16⟩); (have F16 : Ext w6 u16 := F15.trans eu16); (replace m13 := m13.ext eu16); (replace m14 := m14.ext eu16); (replace m15 := m15.ext eu16)) | ((have hF15 := F14); (go_at_call 16); (refine (mulD_any _ _ _ Xb Xc 200 392 200 392 (nb.ext F14) (nc.ext F14) rb rc (by omega) (by omega) (T.ext F14)).mono ?_); (rintro _ u15 ⟨vu15, rfl, m15, eu15⟩); (have F15 : Ext w6 u15 := F14.trans eu15); (replace m13 := m13.ext eu15); (replace m14 := m14.ext eu15)) | ((have hF14 := F13); (go_at_call 16); (refine (mulD_any _ _ _ Xa Xc 200 392 200 392 (na.ext F13) (nc.ext F13) ra rc (by omega) (by omega) (T.ext F13)).mono ?_); (rintro _ u14 ⟨vu14, rfl, m14, eu14⟩); (have F14 : Ext w6 u14 := F13.trans eu14); (replace m13 := m13.ext eu14)) | ((have hF13 := F12); (go_at_call 16); (refine (mulD_any _ _ _ (Xa + Xb) Xc 200 393 200 392 (ns.ext F12) (nc.ext F12) rs rc (by omega) (by omega) (T.ext F12)).mono ?_); (rintro _ u13 ⟨vu13, rfl, m13, eu13⟩); (have F13 : Ext w6 u13 := F12.trans eu13)) | ((have hF12 := F11); (go_at_call 13); (refine (rsameD_eq _ _ _ ((Xa * Xb) * Xc) m9 m11).mono ?_); (rintro _ u12 ⟨rfl, eu12⟩); (have F12 : Ext w6 u12 := F11.trans eu12); (replace m9 := m9.ext eu12); (replace m11 := m11.ext eu12)) | ((have hF11 := F10); (go_at_call 16); (refine (mul_lit _ _ _ Xa (Xb * Xc) ((Xa * Xb) * Xc) 200 392 400 784 HQ.out.2.2.2.1 (na.ext F10) m10 ra rmbc (by omega) (by omega) (T.ext F10)).mono ?_); (rintro _ u11 ⟨vu11, rfl, m11, eu11⟩); (have F11 : Ext w6 u11 := F10.trans eu11); (replace m9 := m9.ext eu11); (replace m10 := m10.ext eu11)) | ((have hF10 := F9); (go_at_call 16); (refine (mulD_any _ _ _ Xb Xc 200 392 200 392 (nb.ext F9) (nc.ext F9) rb rc (by omega) (by omega) (T.ext F9)).mono ?_); (rintro _ u10 ⟨vu10, rfl, m10, eu10⟩); (have F10 : Ext w6 u10 := F9.trans eu10); (replace m9 := m9.ext eu10)) | ((have hF9 := F8); (go_at_call 16); (refine (mulD_any _ _ _ (Xa * Xb) Xc 400 784 200 392 (np.ext F8) (nc.ext F8) rp rc (by omega) (by omega) (T.ext F8)).mono ?_); (rintro _ u9 ⟨vu9, rfl, m9, eu9⟩); (have F9 : Ext w6 u9 := F8.trans eu9)) | ((have hF8 := F7); (go_at_call 13); (refine (rsameD_eq _ _ _ ((Xa + Xb) + Xc) m5 m7).mono ?_); (rintro _ u8 ⟨rfl, eu8⟩); (have F8 : Ext w6 u8 := F7.trans eu8); (replace m5 := m5.ext eu8); (replace m7 := m7.ext eu8)) | ((have hF7 := F6); (go_at_call 14); (refine (add_lit _ _ _ Xa (Xb + Xc) ((Xa + Xb) + Xc) 200 393 HQ.out.2.2.1 (na.ext F6) m6 rs2 rbc (by omega) (T.ext F6)).mono ?_); (rintro _ u7 ⟨vu7, rfl, m7, eu7⟩); (have F7 : Ext w6 u7 := F6.trans eu7); (replace m5 := m5.ext eu7); (replace m6 := m6.ext eu7)) | ((have hF6 := F5); (go_at_call 14); (refine (addD_any _ _ _ Xb Xc 200 392 (nb.ext F5) (nc.ext F5) rb rc (by omega) (T.ext F5)).mono ?_); (rintro _ u6 ⟨vu6, rfl, m6, eu6⟩); (have F6 : Ext w6 u6 := F5.trans eu6); (replace m5 := m5.ext eu6)) | ((have hF5 := F4); (go_at_call 14); (refine (addD_any _ _ _ (Xa + Xb) Xc 200 393 (ns.ext F4) (nc.ext F4) rs rc2 (by omega) (T.ext F4)).mono ?_); (rintro _ u5 ⟨vu5, rfl, m5, eu5⟩); (have F5 : Ext w6 u5 := F4.trans eu5)) | ((have hF4 := F3); (go_at_call 13); (refine (rsameD_eq _ _ _ (Xa * Xb) (np.ext F3) m3).mono ?_); (rintro _ u4 ⟨rfl, eu4⟩); (have F4 : Ext w6 u4 := F3.trans eu4); (replace m3 := m3.ext eu4)) | ((have hF3 := F2); (go_at_call 16); (refine (mul_lit _ _ _ Xb Xa (Xa * Xb) 200 392 200 392 HQ.out.2.1 (nb.ext F2) (na.ext F2) rb ra (by omega) (by omega) (T.ext F2)).mono ?_); (rintro _ u3 ⟨vu3, rfl, m3, eu3⟩); (have F3 : Ext w6 u3 := F2.trans eu3)) | ((have hF2 := F1); (go_at_call 13); (refine (rsameD_eq _ _ _ (Xa + Xb) (ns.ext F1) m1).mono ?_); (rintro _ u2 ⟨rfl, eu2⟩); (have F2 : Ext w6 u2 := F1.trans eu2); (replace m1 := m1.ext eu2)) | ((go_at_call 14); (refine (add_lit _ _ _ Xb Xa (Xa + Xb) 200 392 HQ.out.1 (nb.ext (Ext.refl w6).drew) (na.ext (Ext.refl w6).drew) rb ra (by omega) (T.ext (Ext.refl w6).drew)).mono ?_); (rintro _ u1 ⟨vu1, rfl, m1, eu1⟩); (have F1 : Ext w6 u1 := (Ext.refl w6).drew.trans eu1)))
  go_wp2
  go_ret
  exact ⟨rfl, E0.trans F26⟩
set_option maxRecDepth 100000 in
theorem ring_bad (w : World) (T : Tb w) (nba : Bool) (Ma : Value) (xa : List Int) (ia : Int) (rowa : Row w Ma xa) (bda : -9223372036854775808 ≤ ia ∧ ia ≤ 9223372036854775807) (nbb : Bool) (Mb : Value) (xb : List Int) (ib : Int) (rowb : Row w Mb xb) (bdb : -9223372036854775808 ≤ ib ∧ ib ≤ 9223372036854775807) (nbc : Bool) (Mc : Value) (xc : List Int) (ic : Int) (rowc : Row w Mc xc) (bdc : -9223372036854775808 ≤ ic ∧ ic ≤ 9223372036854775807)   (hg : goodAll 3 (pk nba nbb nbc) (pk xa xb xc) (pk ia ib ic) = false) :
    Calls Tryd.prog 4 #[.agg #[.bool nba, Ma, .int .i64 ia], .agg #[.bool nbb, Mb, .int .i64 ib], .agg #[.bool nbc, Mc, .int .i64 ic]] w (RetE w (.bool true)) := by
  go_enter Tryd.func4, Tryd.ntmps4
  go_wp2_with fail
  refine (headD_any _ (T.ext ((((Ext.refl w).alloc _).alloc _).alloc _))).mono ?_
  rintro _ w1 ⟨rfl, e1⟩
  have E0 : Ext w w1 := ((((Ext.refl w).alloc _).alloc _).alloc _).trans e1
  have Ba : Box w1 (w.heap.size) (.bool nba) Ma (.int .i64 ia) := Box.at ((((Ext.refl _).alloc _).alloc _).trans e1) (by simp)
  have Bb : Box w1 (w.heap.size + 1) (.bool nbb) Mb (.int .i64 ib) := Box.at (((Ext.refl _).alloc _).trans e1) (by simp)
  have Bc : Box w1 (w.heap.size + 1 + 1) (.bool nbc) Mc (.int .i64 ic) := Box.at ((Ext.refl _).trans e1) (by simp)
  replace T := T.ext E0
  replace rowa := rowa.ext E0
  replace rowb := rowb.ext E0
  replace rowc := rowc.ext E0
  clear e1
  obtain ⟨a0, a1, a2⟩ := id Ba
  obtain ⟨b0, b1, b2⟩ := id Bb
  obtain ⟨c0, c1, c2⟩ := id Bc
  have HG := Lib.hid (good_any _ _ 3 3 _ _ _ _ (by omega) (many3 w1 24 nba nbb nbc Ma Mb Mc xa xb xc ia ib ic rowa rowb rowc bda bdb bdc))
  rw [hg] at HG
  clear hg
  go_wp2_with fail
  refine HG.out.mono ?_
  rintro _ w2 ⟨rfl, f2⟩
  have e2 : Ext w1 w2 := ((Ext.refl _).alloc _).trans f2
  go_wp2
  go_ret
  exact ⟨rfl, E0.trans e2⟩
theorem walk_DyaRing (w : World) (T : Tb w) (nba : Bool) (Ma : Value) (xa : List Int) (ia : Int) (rowa : Row w Ma xa) (bda : -9223372036854775808 ≤ ia ∧ ia ≤ 9223372036854775807) (nbb : Bool) (Mb : Value) (xb : List Int) (ib : Int) (rowb : Row w Mb xb) (bdb : -9223372036854775808 ≤ ib ∧ ib ≤ 9223372036854775807) (nbc : Bool) (Mc : Value) (xc : List Int) (ic : Int) (rowc : Row w Mc xc) (bdc : -9223372036854775808 ≤ ic ∧ ic ≤ 9223372036854775807) :
    Calls Tryd.prog 4 #[.agg #[.bool nba, Ma, .int .i64 ia], .agg #[.bool nbb, Mb, .int .i64 ib], .agg #[.bool nbc, Mc, .int .i64 ic]] w (RetE w (.bool true)) := by
  cases hg : goodAll 3 (pk nba nbb nbc) (pk xa xb xc) (pk ia ib ic)
  · exact ring_bad w T nba Ma xa ia rowa bda nbb Mb xb ib rowb bdb nbc Mc xc ic rowc bdc hg
  · exact ring_in w T nba Ma xa ia rowa bda nbb Mb xb ib rowb bdb nbc Mc xc ic rowc bdc hg

end Go.Proofs.YtjnnodbejnmkmaaDoor
