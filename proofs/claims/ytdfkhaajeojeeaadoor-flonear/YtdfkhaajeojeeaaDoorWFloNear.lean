/- The walk of law FloNear. -/
import Derived.Test.YtdfkhaajeojeeaaDoorJ3
import Derived.Test.YtdfkhaajeojeeaaDoorWFloBack
namespace Go.Proofs.YtdfkhaajeojeeaaDoor
open Go.RowKit
set_option linter.unusedVariables false

set_option maxRecDepth 10000 in
set_option maxHeartbeats 2000000 in
theorem near_bad (w : World) (T : Tg w) (nbd : Bool) (Md : Value) (xd : List Int) (jd : Int) (rowd : Row w Md xd) (bdd : -9223372036854775808 ≤ jd ∧ jd ≤ 9223372036854775807) (f : Nat) (hf : f < 18446744073709551616) (hgd : goodF nbd xd jd = false) : Calls Tryd.prog 5 #[.agg #[.bool nbd, Md, .int .i64 jd], .float .f64 f] w (RetE w (.bool true)) := by
  have hff0 : FloatKind.f64.format = Ieee.double := rfl
  have hff := ffrom_run
  have HGd : Hid (∀ w' : World, Ext w w' → Calls Tryd.prog 17 #[.agg #[.bool nbd, Md, .int .i64 jd]] w' (RetE w' (.bool false))) := Lib.hid (fun w' hE => hgd ▸ goodF_any w' nbd Md xd jd (rowd.ext hE) bdd)
  clear hgd rowd bdd
  go_enter Tryd.func5, Tryd.ntmps5
  go_wp2_with fail
  refine (headF_any _ (T.ext ((Ext.refl w).alloc _))).mono ?_
  rintro _ w1 ⟨rfl, f1⟩
  have Bd : Box w1 (w.heap.size) (.bool nbd) Md (.int .i64 jd) := Box.at ((Ext.refl _).trans f1) (by simp)
  have e1 : Ext w w1 := ((Ext.refl w).alloc _).trans f1
  replace T := T.ext e1
  have E1 : Ext w w1 := (Ext.refl w).trans e1
  clear f1 e1
  obtain ⟨Bd_0, Bd_1, Bd_2⟩ := id Bd
  have Bd_l := World.block_lt_of_cell? _ _ Bd_0
  go_wp2_with fail
  refine (HGd.out _ E1).mono ?_
  rintro _ w2 ⟨rfl, f2⟩
  clear Bd_0 Bd_1 Bd_2 Bd_l
  have e2 : Ext w1 w2 := (Ext.refl w1).trans f2
  replace T := T.ext e2
  replace Bd := Bd.ext e2
  have E2 : Ext w w2 := E1.trans e2
  clear f2 e2 E1
  go_wp2
  go_ret
  exact ⟨rfl, E2⟩

set_option maxRecDepth 10000 in
set_option maxHeartbeats 2000000 in
theorem near_good (w : World) (T : Tg w) (nbd : Bool) (Md : Value) (xd : List Int) (jd : Int) (rowd : Row w Md xd) (bdd : -9223372036854775808 ≤ jd ∧ jd ≤ 9223372036854775807) (f : Nat) (hf : f < 18446744073709551616) (hgd : goodF nbd xd jd = true) : Calls Tryd.prog 5 #[.agg #[.bool nbd, Md, .int .i64 jd], .float .f64 f] w (RetE w (.bool true)) := by
  have hff0 : FloatKind.f64.format = Ieee.double := rfl
  have hff := ffrom_run
  have HGd : Hid (∀ w' : World, Ext w w' → Calls Tryd.prog 17 #[.agg #[.bool nbd, Md, .int .i64 jd]] w' (RetE w' (.bool true))) := Lib.hid (fun w' hE => hgd ▸ goodF_any w' nbd Md xd jd (rowd.ext hE) bdd)
  obtain ⟨d, nd, hnb, hrw⟩ := goodF_dn rowd hgd
  have HN := Lib.hid (fun w' v (h : Dn w' v d) (T' : Tg w') => near_nb w' v d h hnb T')
  obtain ⟨D2, s2, ho2, hs2, _, _⟩ := of_case f hf
  have HO2 := Lib.hid ho2
  have HS2 := Lib.hid hs2
  clear hgd rowd bdd hnb hf ho2 hs2
  go_enter Tryd.func5, Tryd.ntmps5
  go_wp2_with fail
  refine (headF_any _ (T.ext ((Ext.refl w).alloc _))).mono ?_
  rintro _ w1 ⟨rfl, f1⟩
  have Bd : Box w1 (w.heap.size) (.bool nbd) Md (.int .i64 jd) := Box.at ((Ext.refl _).trans f1) (by simp)
  have e1 : Ext w w1 := ((Ext.refl w).alloc _).trans f1
  replace T := T.ext e1
  have E1 : Ext w w1 := (Ext.refl w).trans e1
  clear f1 e1
  replace nd := nd.ext E1
  obtain ⟨Bd_0, Bd_1, Bd_2⟩ := id Bd
  have Bd_l := World.block_lt_of_cell? _ _ Bd_0
  go_wp2_with fail
  refine (HGd.out _ E1).mono ?_
  rintro _ w2 ⟨rfl, f2⟩
  clear Bd_0 Bd_1 Bd_2 Bd_l
  have e2 : Ext w1 w2 := (Ext.refl w1).trans f2
  replace T := T.ext e2
  replace nd := nd.ext e2
  replace Bd := Bd.ext e2
  have E2 : Ext w w2 := E1.trans e2
  clear f2 e2 E1
  obtain ⟨Bd_0, Bd_1, Bd_2⟩ := id Bd
  have Bd_l := World.block_lt_of_cell? _ _ Bd_0
  go_wp2_with fail
  refine (HN.out _ _ nd T).mono ?_
  rintro _ w3 ⟨q, rfl, hq, f3⟩
  clear Bd_0 Bd_1 Bd_2 Bd_l
  have e3 : Ext w2 w3 := (Ext.refl w2).trans f3
  replace T := T.ext e3
  replace nd := nd.ext e3
  replace Bd := Bd.ext e3
  have E3 : Ext w w3 := E2.trans e3
  clear f3 e3 E2
  obtain ⟨D1, s1, ho1, hs1, _, _⟩ := of_case q hq.lt
  have HO1 := Lib.hid ho1
  have HS1 := Lib.hid hs1
  have HQ := Lib.hid hq
  clear ho1 hs1 hq
  go_wp2_with fail
  refine (HO1.out _ T).mono ?_
  rintro _ w4 ⟨vn, rfl, nn, f4⟩
  have e4 : Ext w3 w4 := (Ext.refl w3).trans f4
  replace T := T.ext e4
  replace nd := nd.ext e4
  replace Bd := Bd.ext e4
  have E4 : Ext w w4 := E3.trans e4
  clear f4 e4 E3
  obtain ⟨bn, An, ln, cn, jjn, rfl⟩ := nn.form
  go_wp2_with fail
  refine (HO2.out _ (T.ext ((Ext.refl w4).alloc _))).mono ?_
  rintro _ w5 ⟨vm, rfl, nm, f5⟩
  have Bn : Box w5 (w4.heap.size) (.bool bn) (.slice An ln cn) (.int .i64 jjn) := Box.at ((Ext.refl _).trans f5) (by simp)
  have e5 : Ext w4 w5 := ((Ext.refl w4).alloc _).trans f5
  replace T := T.ext e5
  replace nd := nd.ext e5
  replace nn := nn.ext e5
  replace Bd := Bd.ext e5
  have E5 : Ext w w5 := E4.trans e5
  clear f5 e5 E4
  obtain ⟨bm, Am, lm, cm, jjm, rfl⟩ := nm.form
  cases s1
  · go_wp2
    go_ret
    exact ⟨rfl, (E5.trans ((Ext.refl w5).alloc _))⟩
  cases s2
  · go_wp2
    go_ret
    exact ⟨rfl, (E5.trans ((Ext.refl w5).alloc _))⟩
  obtain ⟨hF1, rfl⟩ := HS1.out rfl
  obtain ⟨hF2, rfl⟩ := HS2.out rfl
  have hle : cmpD (absD (fval q + -d)) (absD (fval f + -d)) ≤ 0 := cmpD_le (HQ.out.least hF1)
  have r1 : Rw (fval q) := fin_rw hF1
  have r2 : Rw (fval f) := fin_rw hF2
  clear HO1 HO2 HS1 HS2 HN HGd hF1 hF2 HQ
  generalize fval q = D1 at *
  generalize fval f = D2 at *
  go_upto_region 8 with fail
  have Bm : Box (w5.alloc (.cells #[(.bool bm), (.slice Am lm cm), (.int .i64 jjm)] 25)) w5.heap.size (.bool bm) (.slice Am lm cm) (.int .i64 jjm) := Box.new _ _ _ _ _
  have eV0 : Ext w5 (w5.alloc (.cells #[(.bool bm), (.slice Am lm cm), (.int .i64 jjm)] 25)) := (Ext.refl _).alloc _
  replace T := T.ext eV0
  replace nd := nd.ext eV0
  replace nn := nn.ext eV0
  replace nm := nm.ext eV0
  replace Bd := Bd.ext eV0
  replace Bn := Bn.ext eV0
  have EV0 := E5.trans eV0
  clear eV0 E5
  generalize (w5.alloc (.cells #[(.bool bm), (.slice Am lm cm), (.int .i64 jjm)] 25)) = V0 at *
  obtain ⟨Bd_0, Bd_1, Bd_2⟩ := id Bd
  have Bd_l := World.block_lt_of_cell? _ _ Bd_0
  obtain ⟨Bn_0, Bn_1, Bn_2⟩ := id Bn
  have Bn_l := World.block_lt_of_cell? _ _ Bn_0
  obtain ⟨Bm_0, Bm_1, Bm_2⟩ := id Bm
  have Bm_l := World.block_lt_of_cell? _ _ Bm_0
  go_cut [10] from 12 (fun px wx => ∃ (gx : Nat) (x y z : Value), px = .pointer (some ⟨gx, 0, none⟩) ∧ Box wx gx x y z ∧ Dn wx (.agg #[x, y, z]) (D1 + -d) ∧ Ext V0 wx ∧ (∀ j, wx.frozen? ⟨gx, j, none⟩ = false) ∧ V0.heap.size ≤ gx)
  case first =>
    have hlBn := World.block_lt_of_cell? V0 _ Bn.c0
    simp only at hlBn
    have hn0Bn : w4.heap.size ≠ V0.heap.size := by omega
    have hlBd := World.block_lt_of_cell? V0 _ Bd.c0
    simp only at hlBd
    have hn0Bd : w.heap.size ≠ V0.heap.size := by omega
    go_region_held3 (fun w' => (w'.cell? ⟨w4.heap.size, 0, none⟩ = some (.bool bn) ∧ w'.cell? ⟨w4.heap.size, 1, none⟩ = some (.slice An ln cn) ∧ w'.cell? ⟨w4.heap.size, 2, none⟩ = some (.int .i64 jjn)) ∧ (w'.cell? ⟨w.heap.size, 0, none⟩ = some (.bool nbd) ∧ w'.cell? ⟨w.heap.size, 1, none⟩ = some Md ∧ w'.cell? ⟨w.heap.size, 2, none⟩ = some (.int .i64 jd))) (first | (with_reducible exact ⟨box3 (Bn.ext F2), box3 (Bd.ext F2)⟩) | (with_reducible exact ⟨box3 (Bn.ext (F2.alloc _)), box3 (Bd.ext (F2.alloc _))⟩) | (with_reducible exact ⟨box3_set (Bn.ext F2) hn0Bn, box3_set (Bd.ext F2) hn0Bd⟩) | (with_reducible exact ⟨box3_set (Bn.ext F2) hn3Bn, box3_set (Bd.ext F2) hn3Bd⟩) | (with_reducible exact ⟨box3 (Bn.ext F1), box3 (Bd.ext F1)⟩) | (with_reducible exact ⟨box3 (Bn.ext (F1.alloc _)), box3 (Bd.ext (F1.alloc _))⟩) | go_keep) (first | ((have hF := F1); (go_at_call 21); (refine (raddD_any _ _ _ D1 (-d) 3000 3500 (nn.ext (by first | exact F1 | exact F1.alloc _)) (m1.ext (by first | exact Ext.refl _ | exact (Ext.refl _).alloc _)) r1 hrw.neg (by omega)).mono ?_); (rintro _ u4 ⟨v4, rfl, m4, e4⟩); (obtain ⟨p4, P4, q4, s4, t4, rfl⟩ := m4.form); (have F2 : Ext V0 u4 := (by first | exact F1.trans e4 | exact (F1.alloc _).trans e4)); (try (have Zm := Zn.ext e4)); (try (have Zm := Zd.at e4 rfl)); (try (obtain ⟨z0, z1, z2, z3, zf⟩ := id Zm; have f0 := zf 0; have f1 := zf 1; have f2 := zf 2; clear z3 zf))) | ((go_at_call 22); (refine (rflip_any _ _ d (nd.ext (by first | exact (Ext.refl _).drew | exact ((Ext.refl _).alloc _).drew | exact (Ext.refl _).drew.alloc _))).mono ?_); (rintro _ u3 ⟨v3, rfl, m1, e3⟩); (have F1 : Ext V0 u3 := (by first | exact (Ext.refl _).drew.trans e3 | exact (((Ext.refl _).alloc _).drew).trans e3 | exact ((Ext.refl _).drew.alloc _).trans e3)); (have hn3Bn : w4.heap.size ≠ u3.heap.size := (by have := F1.size; omega)); (have hn3Bd : w.heap.size ≠ u3.heap.size := (by have := F1.size; omega)); (try (have Zn := Zd.at (w := V0) ((Ext.refl _).drew.trans e3) rfl))))
    all_goals (
      go_wp2_with fail
      go_meet
      case rel =>
        first
        | exact ⟨_, _, _, _, rfl, Box.at (Ext.refl _) rfl, m4.ext ((Ext.refl _).alloc _), F2.alloc _, fun j => by simp, F2.size⟩
        | (obtain ⟨k0, k1, k2, hD⟩ := Zm.done m4 F2 (by have := F1.size; omega)
           obtain ⟨_, hv, hD, hE⟩ := hD
           injection hv with hv
           subst hv
           exact ⟨_, _, _, _, rfl, ⟨k0, k1, k2⟩, hD, hE, fun j => by simp only [World.frozen?_setCell]; exact Zm.f j, by have := F1.size; omega⟩))
  case rest =>
    obtain ⟨ga, a0, a1, a2, rfl, Ba, na, F0, fa, la⟩ := hcut
    clear Bd_0 Bd_1 Bd_2 Bd_l Bn_0 Bn_1 Bn_2 Bn_l Bm_0 Bm_1 Bm_2 Bm_l
    replace T := T.ext F0
    replace nd := nd.ext F0
    replace nn := nn.ext F0
    replace nm := nm.ext F0
    replace Bd := Bd.ext F0
    replace Bn := Bn.ext F0
    replace Bm := Bm.ext F0
    have EV1 : Ext w wc := EV0.trans F0
    have hsz : w.heap.size ≤ V0.heap.size := EV0.size
    have hga : w.heap.size ≤ ga := by omega
    clear F0 la hsz EV0
    generalize hwc : wc = V1 at *
    clear hwc
    go_upto_region 9 with fail
    obtain ⟨Bd_0, Bd_1, Bd_2⟩ := id Bd
    obtain ⟨Bm_0, Bm_1, Bm_2⟩ := id Bm
    have hlBa := World.block_lt_of_cell? V1 _ Ba.c0
    simp only at hlBa
    go_cut [11] from 12 (fun px wx => ∃ (gx : Nat) (x y z : Value), px = .pointer (some ⟨gx, 0, none⟩) ∧ Box wx gx x y z ∧ Dn wx (.agg #[x, y, z]) (D2 + -d) ∧ Ext V1 wx ∧ (∀ j, wx.frozen? ⟨gx, j, none⟩ = false) ∧ V1.heap.size ≤ gx)
    case first =>
      have hlBm := World.block_lt_of_cell? V1 _ Bm.c0
      simp only at hlBm
      have hn0Bm : w5.heap.size ≠ V1.heap.size := by omega
      have hlBd := World.block_lt_of_cell? V1 _ Bd.c0
      simp only at hlBd
      have hn0Bd : w.heap.size ≠ V1.heap.size := by omega
      go_region_held3 (fun w' => (w'.cell? ⟨w5.heap.size, 0, none⟩ = some (.bool bm) ∧ w'.cell? ⟨w5.heap.size, 1, none⟩ = some (.slice Am lm cm) ∧ w'.cell? ⟨w5.heap.size, 2, none⟩ = some (.int .i64 jjm)) ∧ (w'.cell? ⟨w.heap.size, 0, none⟩ = some (.bool nbd) ∧ w'.cell? ⟨w.heap.size, 1, none⟩ = some Md ∧ w'.cell? ⟨w.heap.size, 2, none⟩ = some (.int .i64 jd))) (first | (with_reducible exact ⟨box3 (Bm.ext F2), box3 (Bd.ext F2)⟩) | (with_reducible exact ⟨box3 (Bm.ext (F2.alloc _)), box3 (Bd.ext (F2.alloc _))⟩) | (with_reducible exact ⟨box3_set (Bm.ext F2) hn0Bm, box3_set (Bd.ext F2) hn0Bd⟩) | (with_reducible exact ⟨box3_set (Bm.ext F2) hn3Bm, box3_set (Bd.ext F2) hn3Bd⟩) | (with_reducible exact ⟨box3 (Bm.ext F1), box3 (Bd.ext F1)⟩) | (with_reducible exact ⟨box3 (Bm.ext (F1.alloc _)), box3 (Bd.ext (F1.alloc _))⟩) | go_keep) (first | ((have hF := F1); (go_at_call 21); (refine (raddD_any _ _ _ D2 (-d) 3000 3500 (nm.ext (by first | exact F1 | exact F1.alloc _)) (m1.ext (by first | exact Ext.refl _ | exact (Ext.refl _).alloc _)) r2 hrw.neg (by omega)).mono ?_); (rintro _ u4 ⟨v4, rfl, m4, e4⟩); (obtain ⟨p4, P4, q4, s4, t4, rfl⟩ := m4.form); (have F2 : Ext V1 u4 := (by first | exact F1.trans e4 | exact (F1.alloc _).trans e4)); (try (have Zm := Zn.ext e4)); (try (have Zm := Zd.at e4 rfl)); (try (obtain ⟨z0, z1, z2, z3, zf⟩ := id Zm; have f0 := zf 0; have f1 := zf 1; have f2 := zf 2; clear z3 zf))) | ((go_at_call 22); (refine (rflip_any _ _ d (nd.ext (by first | exact (Ext.refl _).drew | exact ((Ext.refl _).alloc _).drew | exact (Ext.refl _).drew.alloc _))).mono ?_); (rintro _ u3 ⟨v3, rfl, m1, e3⟩); (have F1 : Ext V1 u3 := (by first | exact (Ext.refl _).drew.trans e3 | exact (((Ext.refl _).alloc _).drew).trans e3 | exact ((Ext.refl _).drew.alloc _).trans e3)); (have hn3Bm : w5.heap.size ≠ u3.heap.size := (by have := F1.size; omega)); (have hn3Bd : w.heap.size ≠ u3.heap.size := (by have := F1.size; omega)); (try (have Zn := Zd.at (w := V1) ((Ext.refl _).drew.trans e3) rfl))))
      all_goals (
        go_wp2_with fail
        go_meet
        case rel =>
          first
          | exact ⟨_, _, _, _, rfl, Box.at (Ext.refl _) rfl, m4.ext ((Ext.refl _).alloc _), F2.alloc _, fun j => by simp, F2.size⟩
          | (obtain ⟨k0, k1, k2, hD⟩ := Zm.done m4 F2 (by have := F1.size; omega)
             obtain ⟨_, hv, hD, hE⟩ := hD
             injection hv with hv
             subst hv
             exact ⟨_, _, _, _, rfl, ⟨k0, k1, k2⟩, hD, hE, fun j => by simp only [World.frozen?_setCell]; exact Zm.f j, by have := F1.size; omega⟩))
    case rest =>
      obtain ⟨gb, b0, b1, b2, rfl, Bb, nb, F0, fb, lb⟩ := hcut
      clear Bd_0 Bd_1 Bd_2 Bm_0 Bm_1 Bm_2
      replace fa : ∀ j, wc.frozen? ⟨ga, j, none⟩ = false := fun j => (F0.frozen (p := ⟨ga, j, none⟩) hlBa).trans (fa j)
      replace na := na.ext F0
      replace Ba := Ba.ext F0
      have EV2 : Ext w wc := EV1.trans F0
      have hgb : w.heap.size ≤ gb := by have := EV1.size; omega
      have hab : ga ≠ gb := by omega
      obtain ⟨sa, rfl⟩ := na.first
      obtain ⟨sb, rfl⟩ := nb.first
      have hpa := Ba.c0
      have hpb := Bb.c0
      have hne : (⟨ga, 0, none⟩ : Addr) ≠ ⟨gb, 0, none⟩ := by intro h; injection h with h _ _; exact hab h
      have hpb2 : (wc.setCell ⟨ga, 0, none⟩ (.bool false)).cell? ⟨gb, 0, none⟩ = some (.bool sb) := by rw [World.cell?_setCell_other _ _ _ _ hne]; exact hpb
      have na2 := (na.pos.setb hpa (.bool false)).setb hpb2 (.bool false)
      have nb2 := (nb.pos.setb hpa (.bool false)).setb hpb2 (.bool false)
      have EV3 := (EV2.setCell (p := ⟨ga, 0, none⟩) hga (.bool false)).setCell (p := ⟨gb, 0, none⟩) hgb (.bool false)
      have fa0 := fa 0
      have fb0 := fb 0
      have ra := (r1.add hrw.neg).abs
      have rb := (r2.add hrw.neg).abs
      have HC := Lib.hid (fun w' va vb (ha : Dn w' va (absD (D1 + -d))) (hb : Dn w' vb (absD (D2 + -d))) => rcmpD_any w' va vb _ _ 3000 3501 ha hb ra rb (by omega))
      obtain ⟨t, ht⟩ : ∃ t, cmpD (absD (D1 + -d)) (absD (D2 + -d)) = t := ⟨_, rfl⟩
      rw [ht] at HC hle
      obtain ⟨ca0, ca1, ca2⟩ := id Ba
      obtain ⟨cb0, cb1, cb2⟩ := id Bb
      clear F0 lb na nb ra rb r1 r2 hrw nd nn nm T Bd Bn Bm Ba Bb EV1 EV2 fa fb ht
      go_wp2_with fail
      refine (HC.out _ _ _ na2 nb2).mono ?_
      rintro _ w9 ⟨rfl, e9⟩
      go_wp2
      go_ret
      exact ⟨rfl, EV3.trans e9⟩

theorem walk_FloNear (w : World) (T : Tg w) (nbd : Bool) (Md : Value) (xd : List Int) (jd : Int) (rowd : Row w Md xd) (bdd : -9223372036854775808 ≤ jd ∧ jd ≤ 9223372036854775807) (f : Nat) (hf : f < 18446744073709551616) : Calls Tryd.prog 5 #[.agg #[.bool nbd, Md, .int .i64 jd], .float .f64 f] w (RetE w (.bool true)) := by
  cases hgd : goodF nbd xd jd
  · exact near_bad w T nbd Md xd jd rowd bdd f hf hgd
  · exact near_good w T nbd Md xd jd rowd bdd f hf hgd

end Go.Proofs.YtdfkhaajeojeeaaDoor
